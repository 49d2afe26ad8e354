import Derived.Test.YtaamahohdnbpiaaGreatG02
import Derived.Test.YtaamahohdnbpiaaGreatHX
namespace Go.Proofs.YtaamahohdnbpiaaGreat
open Go.RowKit
theorem wp_make_Zc {o : Oper} {a : Act} {K : Act → World → Prop} {Q : Exit → Act → World → Prop} (w : World) (T E : TypeId) (Z : Value) (sz by_ : Nat) (hi0 : (Tryz.prog.info? E).map (fun i => (i.zero, i.size, i.bytes)) = some (some Z, sz, by_)) (hu : Tryz.prog.underlying T = some (.slice E)) (hby : by_ ≤ 1000)
    (l c : Operand) (hop : o.op = Op.makeSlice T l c) (n : Nat) (hl : a.eval l = .int .i64 (n : Int)) (hc : a.eval c = .int .i64 (n : Int)) (hn : n ≤ 100000000)
    (hK : ∀ w', rowZ w' w.heap.size (n * sz) → (∀ t, t < n * sz → w'.cell? ⟨w.heap.size, t, none⟩ = some Z.cells[t % Z.cells.size]!) → Below w.heap.size w w' → w.heap.size < w'.heap.size → K (a.put o.dst (.slice (some ⟨w.heap.size, 0, none⟩) n n)) w') :
    o.wp Tryz.prog a w K Q := by
  obtain ⟨i0, hi, hz0, hz1, hz2⟩ := info_parts hi0
  have hmul : by_ * n ≤ 1000 * n := Nat.mul_le_mul_right _ hby
  obtain ⟨w', hrun, ho, hgr⟩ := run_make_full (P := Tryz.prog) w w.heap.size T E i0 Z sz hu hi hz0 hz1 .i64 .i64 n (by rw [hz2]; omega) (by unfold maxLen; omega) (Nat.le_refl _)
  have hcell : ∀ t, t < n * sz → w'.cell? ⟨w.heap.size, t, none⟩ = some Z.cells[t % Z.cells.size]! := by
    intro t ht
    rw [World.ownsRow.cellAt ho t (by omega), Array.getElem?_toList]
    simp [madeCells, ht]
  unfold Oper.wp
  simp [execOp, hop, hl, hc, hrun, Result.andThen]
  exact hK w' ⟨fun t ht => ⟨_, hcell t ht⟩, fun t => World.ownsRow.frozenAt ho t⟩ hcell ((Below.refl _ _).grown hgr (Nat.le_refl _) (by intro k e; cases e)) (World.ownsRow.lt ho _ rfl).2
theorem rowZ_alloc (w : World) (l : List Value) (T : TypeId) : rowZ (w.alloc (.cells l.toArray T)) w.heap.size l.length := by
  have e : (w.alloc (.cells l.toArray T)).heap[w.heap.size]? = some (.cells l.toArray T) := heap_alloc_new w _
  refine ⟨fun t ht => ?_, fun t => ?_⟩
  · have := there_block e 0 l.length (by omega) t ht
    rw [Nat.zero_add] at this
    exact Option.isSome_iff_exists.1 this.1
  · unfold World.frozen?
    rw [e]
    simp
structure nhS (w : World) (m b c d : Int) (W : World) : Prop where
  p : W.heap[w.heap.size]? = some (.cells [.int .i64 m, .int .i64 b, .int .i64 c, .int .i64 d].toArray 29)
  r : rowZ W (w.heap.size + 1) 10
  b : Below w.heap.size w W
  z : w.heap.size + 2 ≤ W.heap.size
theorem nhS.below {w : World} {m b c d : Int} {W W' : World} (h : nhS w m b c d W) (hb : Below W.heap.size W W') : nhS w m b c d W' :=
  ⟨(hb.block _ (by have := h.z; omega)).trans h.p, h.r.below hb (by have := h.z; omega), h.b.trans (hb.mono h.b.size), Nat.le_trans h.z hb.size⟩
theorem nhS.put {w : World} {m b c d : Int} {W : World} (h : nhS w m b c d W) (vs : List Value) (hv : vs.length = 10) : nhS w m b c d (setRow W (w.heap.size + 1) 0 vs) :=
  ⟨(setRow_block _ _ (by omega) vs W 0).trans h.p, h.r.put vs 0 (by omega), setRow_below _ _ (by omega) w vs W 0 h.b, by rw [setRow_size]; exact h.z⟩
theorem nhS.cell {w : World} {m b c d : Int} {W : World} (h : nhS w m b c d W) : W.cell? ⟨w.heap.size, 0, none⟩ = some (.int .i64 m) := by
  have := range_block h.p 0 (.int .i64 m) rfl
  simpa using this
theorem sz35 : (Tryz.prog.info? 29).map (·.size) = some 4 := by kernel_rfl
structure nhOut (w w' : World) (g1 n k1 g2 m : Nat) (bs : List R3) : Prop where
  ne : g1 ≠ g2
  l1 : w.heap.size ≤ g1
  u1 : g1 < w'.heap.size
  l2 : w.heap.size ≤ g2
  u2 : g2 < w'.heap.size
  c1 : n ≤ k1
  z1 : rowZ w' g1 (n * 3)
  z2 : rowZ w' g2 (m * 8)
  s1 : St (w.heap.size + 2) w' (fun V => isR3s V (some ⟨g1, 0, none⟩) n k1 bs)
  a2 : ∀ j, j < m → at8 w' g2 (j * 8) bx0 none 0 0
theorem at8.upN {W w : World} {g o : Nat} (h : at8 w g o bx0 none 0 0) (he : W.heap[g]? = w.heap[g]?) : at8 W g o bx0 none 0 0 :=
  ⟨cell_up h.c0 he, cell_up h.c1 he, cell_up h.c2 he, cell_up h.c3 he, cell_up h.c4 he, cell_up h.c5 he, cell_up h.c6 he, cell_up h.cs he, ⟨rfl, Nat.le_refl _, fun _ hx => (by cases hx), fun hne => absurd rfl hne⟩⟩
theorem nhOut.put {w W : World} {g1 n k1 g2 m : Nat} {bs : List R3} (h : nhOut w W g1 n k1 g2 m bs) (h1 : w.heap.size + 2 ≤ g1) (h2 : w.heap.size + 2 ≤ g2) (vs : List Value) : nhOut w (setRow W (w.heap.size + 1) 0 vs) g1 n k1 g2 m bs := by
  have e1 := setRow_block (w.heap.size + 1) g1 (by omega) vs W 0
  have e2 := setRow_block (w.heap.size + 1) g2 (by omega) vs W 0
  refine ⟨h.ne, h.l1, by rw [setRow_size]; exact h.u1, h.l2, by rw [setRow_size]; exact h.u2, h.c1, h.z1.up e1, h.z2.up e2, ?_, fun j hj => (h.a2 j hj).upN e2⟩
  rw [← setCells_row]
  exact h.s1.setCells _ _ (by omega) vs
set_option maxHeartbeats 4000000 in
set_option maxRecDepth 20000 in
theorem newHost_ok (w : World) (m : Nat) (b c d : Int) (g n cap : Nat) (bs : List R3) (h : okCf m b c d = true) (hf : isR3s w (some ⟨g, 0, none⟩) n cap bs) (hn : n ≤ 1048576) (hm : m ≤ 8) (h2 : okFs bs = true) :
    Calls Tryz.prog 14 #[cfV m b c d, .slice (some ⟨g, 0, none⟩) n cap] w fun o w' => ∃ g1 k1 g2, o = .returned (.tuple #[hoV ⟨m, b, c, d, bs, List.replicate m bx0, [], [], 0, 0⟩ ⟨some ⟨g1, 0, none⟩, n, k1, some ⟨g2, 0, none⟩, m, m, none, 0, 0, none, 0, 0⟩, .int .i64 0]) ∧ nhOut w w' g1 n k1 g2 m bs ∧ Below w.heap.size w w' := by
  have HE : Hid (∀ W, Calls Tryz.prog 53 #[cfV m b c d] W fun o w' => o = .returned (.bool true) ∧ Below W.heap.size W w') := fun W => by have := validConfig_any W m b c d; rw [h] at this; exact this
  have HF : Hid (∀ W, Below w.heap.size w W → Calls Tryz.prog 54 #[.slice (some ⟨g, 0, none⟩) n cap] W fun o w' => o = .returned (.bool true) ∧ Below W.heap.size W w') := fun W hW => by have := validFilters_any W _ n cap bs (hf.below hW) hn; rw [h2] at this; exact this
  have HC : Hid (∀ W, Below w.heap.size w W → Calls Tryz.prog 55 #[.slice (some ⟨g, 0, none⟩) n cap] W fun e w' => ∃ g1 k1, e = .returned (.slice (some ⟨g1, 0, none⟩) n k1) ∧ (W.heap.size ≤ g1 ∧ g1 < w'.heap.size ∧ n ≤ k1 ∧ rowZ w' g1 (n * 3) ∧ St W.heap.size w' (fun V => isR3s V (some ⟨g1, 0, none⟩) n k1 bs)) ∧ Below W.heap.size W w') := fun W hW => cloneN hf hn W hW
  clear h hf h2
  go_enter Tryz.func14, Tryz.ntmps14
  go_wp2_with fail
  refine (HE.out _).mono ?_
  rintro o w1 ⟨rfl, hb1⟩
  have N1 : nhS w m b c d w1 := by
    refine nhS.below (W := (w.alloc (.cells #[.int .i64 m, .int .i64 b, .int .i64 c, .int .i64 d] 29)).alloc (.cells #[.int .i64 0, .int .i64 0, .int .i64 0, .int .i64 0, .slice none 0 0, .slice none 0 0, .slice none 0 0, .slice none 0 0, .int .i64 0, .int .i64 0] 35)) ⟨?_, ?_, ((Below.refl _ _).alloc (Nat.le_refl _) _).alloc (by simp) _, by simp⟩ hb1
    · rw [Below.heap_alloc _ _ _ (by simp)]
      exact heap_alloc_new w _
    · have := rowZ_alloc (w.alloc (.cells #[.int .i64 m, .int .i64 b, .int .i64 c, .int .i64 d] 29)) [.int .i64 0, .int .i64 0, .int .i64 0, .int .i64 0, .slice none 0 0, .slice none 0 0, .slice none 0 0, .slice none 0 0, .int .i64 0, .int .i64 0] 35
      simpa using this
  have HN1 : Hid (nhS w m b c d w1) := N1
  clear N1 hb1
  go_wp2_with fail
  refine (HF.out _ HN1.out.b).mono ?_
  rintro o w2 ⟨rfl, hb2⟩
  have HN2 : Hid (nhS w m b c d w2) := HN1.out.below hb2
  clear hb2
  go_wp2_with (first | (go_at_call 55; fail))
  refine wp_region_held (S := nhS w m b c d) (by kernel_rfl) ?_
  have hS := HN2.out.below (W' := w2.drew) (Below.refl _ _).drew
  refine wpAnyH_take (i := 0) (v := .agg [.int .i64 m, .int .i64 b, .int .i64 c, .int .i64 d].toArray) rfl (by kernel_rfl) (by kernel_rfl) (by kernel_rfl) (fun _ _ _ h => h) (yieldsIf_load_mid (by rfl) 29 (.tmp 2) rfl w.heap.size 0 rfl [.int .i64 m, .int .i64 b, .int .i64 c, .int .i64 d] _ (fun W h => range_block h.p) Tryz.underlying29 rfl sz35) hS ?_
  simp only [Act.put, liA, liB, liC, liD, liE]
  refine wpAnyH_take (i := 1) (v := .slice (some ⟨g, 0, none⟩) n cap) rfl (by kernel_rfl) (by kernel_rfl) (by kernel_rfl) (fun _ _ _ h => h) (Or.inl ⟨by rfl, ?_⟩) hS ?_
  · intro W hSw
    clear hS
    go_simp
  simp only [Act.put, liA, liB, liC, liD, liE, liF]
  refine wpAnyH_take (i := 3) (v := .pointer (some ⟨w.heap.size, 0, none⟩)) rfl (by kernel_rfl) (by kernel_rfl) (by kernel_rfl) (fun _ _ _ h => h) (Or.inl ⟨by rfl, ?_⟩) hS ?_
  · intro W hSw
    clear hS
    go_simp
  simp only [Act.put, liA, liB, liC, liD, liE, liF]
  refine wpAnyH_take (i := 4) (v := .int .i64 m) rfl (by kernel_rfl) (by kernel_rfl) (by kernel_rfl) (fun _ _ _ h => h) (Or.inl ⟨by rfl, ?_⟩) hS ?_
  · intro W hSw
    clear hS
    have := hSw.cell
    go_simp
  simp only [Act.put, liA, liB, liC, liD, liE, liF]
  refine wpAnyH_all (rs := [2, 5]) (by kernel_rfl) (by simp) ?_
  refine AllReadyH.cons rfl (fun K hK => ?_) (AllReadyH.cons rfl (fun K hK => ?_) AllReadyH.nil)
  · go_simp
    refine (HC.out _ hS.b).mono ?_
    rintro o w7 ⟨g1, k1, rfl, ⟨q1, q2, q3, q4, q5⟩, b7⟩
    have hS7 := hS.below b7
    have hz2 := hS.z
    go_wp2_with fail
    refine hK.out _ _ hS7 (fun hS2 => ?_)
    clear hS hK K hS7
    have hS := hS2
    clear hS2
    refine wpAnyH_all (rs := [5]) (by kernel_rfl) (by simp) ?_
    refine AllReadyH.cons rfl (fun K hK => ?_) AllReadyH.nil
    rw [if_pos (by rfl)]
    refine wp_make_Zc w7 31 97 _ 8 72 Tryz.info97 Tryz.underlying31 (by decide) (.tmp 18) (.tmp 18) rfl m rfl rfl (by omega) ?_
    intro w8 hrow hcells b8 hz8
    have hS8 := hS.below b8
    have HG1 : Hid (w.heap.size + 2 ≤ g1) := Nat.le_trans hz2 q1
    have HG2 : Hid (w.heap.size + 2 ≤ w7.heap.size) := hS.z
    have HO8 : Hid (nhOut w w8 g1 n k1 w7.heap.size m bs) := ⟨by omega, by have := HG1.out; omega, by omega, by have := HG2.out; omega, hz8, q3, q4.below b8 q2, hrow, (q5.mono hz2).below b8, fun j hj => zero_boxes hcells j hj⟩
    clear q1 q2 q3 q4 q5 b7 b8 hrow hcells hz8 hz2
    simp only [Act.put, liA, liB, liC, liD, liE, liF]
    refine hK.out _ _ hS8 (fun hS2 => ?_)
    clear hS hK K hS8
    have hS := hS2
    clear hS2
    refine wpAnyH_take (i := 6) (v := .agg [.int .i64 m, .int .i64 b, .int .i64 c, .int .i64 d, .slice (some ⟨g1, 0, none⟩) n k1, .slice (some ⟨w7.heap.size, 0, none⟩) m m, .slice none 0 0, .slice none 0 0, .int .i64 0, .int .i64 0].toArray) rfl (by kernel_rfl) (by kernel_rfl) (by kernel_rfl) (fun _ _ _ h => h) (Or.inl ⟨by rfl, ?_⟩) hS ?_
    · intro W hSw
      clear hS
      go_simp
    simp only [Act.put, liA, liB, liC, liD, liE, liF]
    refine wpAnyH_all (rs := [7]) (by kernel_rfl) (by simp) ?_
    refine AllReadyH.cons rfl (fun K hK => ?_) AllReadyH.nil
    rw [if_pos (by rfl)]
    refine wp_store_mid (P := Tryz.prog) 35 (.tmp 4) (.tmp 20) rfl (w.heap.size + 1) 0 _ rfl rfl (hS.r.there 0 _ (by simp)) sz41 (one10 _ _ _ _ _ _ _ _ _ _ _ _ _ _ _ _ _ _) ?_
    rw [setCells_row]
    have hS9 := hS.put [.int .i64 m, .int .i64 b, .int .i64 c, .int .i64 d, .slice (some ⟨g1, 0, none⟩) n k1, .slice (some ⟨w7.heap.size, 0, none⟩) m m, .slice none 0 0, .slice none 0 0, .int .i64 0, .int .i64 0] rfl
    have HO9 : Hid _ := HO8.out.put HG1.out HG2.out [.int .i64 m, .int .i64 b, .int .i64 c, .int .i64 d, .slice (some ⟨g1, 0, none⟩) n k1, .slice (some ⟨w7.heap.size, 0, none⟩) m m, .slice none 0 0, .slice none 0 0, .int .i64 0, .int .i64 0]
    have C9 := fun t ht => setRow_at (w.heap.size + 1) [.int .i64 m, .int .i64 b, .int .i64 c, .int .i64 d, .slice (some ⟨g1, 0, none⟩) n k1, .slice (some ⟨w7.heap.size, 0, none⟩) m m, .slice none 0 0, .slice none 0 0, .int .i64 0, .int .i64 0] w8 0 t ht (hS.r.cell _ (by simp at ht; omega))
    refine hK.out _ _ hS9 (fun hS2 => ?_)
    generalize hw9 : setRow w8 (w.heap.size + 1) 0 _ = w9 at *
    clear hS hK K hS9 hw9
    have HS9 : Hid _ := hS2
    refine wpAnyH_take (i := 8) (v := .int .i64 0) rfl (by kernel_rfl) (by kernel_rfl) (by kernel_rfl) (fun _ _ _ h => h) (Or.inl ⟨by rfl, ?_⟩) hS2 ?_
    · intro W hSw
      clear hS2
      go_simp
    clear hS2
    simp only [Act.put, liA, liB, liC, liD, liE, liF]
    refine wpAnyH_done (by kernel_rfl) ?_ _
    have x0 := C9 0 (by simp)
    have x1 := C9 1 (by simp)
    have x2 := C9 2 (by simp)
    have x3 := C9 3 (by simp)
    have x4 := C9 4 (by simp)
    have x5 := C9 5 (by simp)
    have x6 := C9 6 (by simp)
    have x7 := C9 7 (by simp)
    have x8 := C9 8 (by simp)
    have x9 := C9 9 (by simp)
    clear C9
    simp only [liE, liF, Nat.zero_add] at x0 x1 x2 x3 x4 x5 x6 x7 x8 x9
    go_wp2_with fail
    refine bodyPost_ret (v := .tuple #[hoV ⟨m, b, c, d, bs, List.replicate m bx0, [], [], 0, 0⟩ ⟨some ⟨g1, 0, none⟩, n, k1, some ⟨w7.heap.size, 0, none⟩, m, m, none, 0, 0, none, 0, 0⟩, .int .i64 0]) (by simp [results, Tryz.results14, go_sem, x0, x1, x2, x3, x4, x5, x6, x7, x8, x9]) rfl ?_
    exact ⟨g1, k1, _, rfl, HO9.out, HS9.out.b⟩
  · rw [if_pos (by rfl)]
    refine wp_make_Zc _ 31 97 _ 8 72 Tryz.info97 Tryz.underlying31 (by decide) (.tmp 18) (.tmp 18) rfl m rfl rfl (by omega) ?_
    intro w7 hrow hcells b7 hz7
    dsimp only at hrow hcells b7 hz7
    have hS7 := hS.below b7
    have HG2 : Hid (w.heap.size + 2 ≤ w2.heap.size) := hS.z
    refine hK.out _ _ hS7 (fun hS2 => ?_)
    clear hS hK K hS7
    have hS := hS2
    clear hS2
    simp only [Act.put, liA, liB, liC, liD, liE, liF]
    refine wpAnyH_all (rs := [2]) (by kernel_rfl) (by simp) ?_
    refine AllReadyH.cons rfl (fun K hK => ?_) AllReadyH.nil
    go_simp
    refine (HC.out _ hS.b).mono ?_
    rintro o w8 ⟨g1, k1, rfl, ⟨q1, q2, q3, q4, q5⟩, b8⟩
    have hS8 := hS.below b8
    have HG1 : Hid (w.heap.size + 2 ≤ g1) := by have := HG2.out; show _ ≤ _; omega
    have HO8 : Hid (nhOut w w8 g1 n k1 w2.heap.size m bs) := ⟨by omega, by have := HG1.out; omega, by omega, by have := HG2.out; omega, by have := b8.size; omega, q3, q4, hrow.below b8 hz7, q5.mono hS.z, fun j hj => (zero_boxes hcells j hj).below b8⟩
    clear q1 q2 q3 q4 q5 b7 b8 hrow hcells hz7
    go_wp2_with fail
    refine hK.out _ _ hS8 (fun hS2 => ?_)
    clear hS hK K hS8
    have hS := hS2
    clear hS2
    refine wpAnyH_take (i := 6) (v := .agg [.int .i64 m, .int .i64 b, .int .i64 c, .int .i64 d, .slice (some ⟨g1, 0, none⟩) n k1, .slice (some ⟨w2.heap.size, 0, none⟩) m m, .slice none 0 0, .slice none 0 0, .int .i64 0, .int .i64 0].toArray) rfl (by kernel_rfl) (by kernel_rfl) (by kernel_rfl) (fun _ _ _ h => h) (Or.inl ⟨by rfl, ?_⟩) hS ?_
    · intro W hSw
      clear hS
      go_simp
    simp only [Act.put, liA, liB, liC, liD, liE, liF]
    refine wpAnyH_all (rs := [7]) (by kernel_rfl) (by simp) ?_
    refine AllReadyH.cons rfl (fun K hK => ?_) AllReadyH.nil
    rw [if_pos (by rfl)]
    refine wp_store_mid (P := Tryz.prog) 35 (.tmp 4) (.tmp 20) rfl (w.heap.size + 1) 0 _ rfl rfl (hS.r.there 0 _ (by simp)) sz41 (one10 _ _ _ _ _ _ _ _ _ _ _ _ _ _ _ _ _ _) ?_
    rw [setCells_row]
    have hS9 := hS.put [.int .i64 m, .int .i64 b, .int .i64 c, .int .i64 d, .slice (some ⟨g1, 0, none⟩) n k1, .slice (some ⟨w2.heap.size, 0, none⟩) m m, .slice none 0 0, .slice none 0 0, .int .i64 0, .int .i64 0] rfl
    have HO9 : Hid _ := HO8.out.put HG1.out HG2.out [.int .i64 m, .int .i64 b, .int .i64 c, .int .i64 d, .slice (some ⟨g1, 0, none⟩) n k1, .slice (some ⟨w2.heap.size, 0, none⟩) m m, .slice none 0 0, .slice none 0 0, .int .i64 0, .int .i64 0]
    have C9 := fun t ht => setRow_at (w.heap.size + 1) [.int .i64 m, .int .i64 b, .int .i64 c, .int .i64 d, .slice (some ⟨g1, 0, none⟩) n k1, .slice (some ⟨w2.heap.size, 0, none⟩) m m, .slice none 0 0, .slice none 0 0, .int .i64 0, .int .i64 0] w8 0 t ht (hS.r.cell _ (by simp at ht; omega))
    refine hK.out _ _ hS9 (fun hS2 => ?_)
    generalize hw9 : setRow w8 (w.heap.size + 1) 0 _ = w9 at *
    clear hS hK K hS9 hw9
    have HS9 : Hid _ := hS2
    refine wpAnyH_take (i := 8) (v := .int .i64 0) rfl (by kernel_rfl) (by kernel_rfl) (by kernel_rfl) (fun _ _ _ h => h) (Or.inl ⟨by rfl, ?_⟩) hS2 ?_
    · intro W hSw
      clear hS2
      go_simp
    clear hS2
    simp only [Act.put, liA, liB, liC, liD, liE, liF]
    refine wpAnyH_done (by kernel_rfl) ?_ _
    have x0 := C9 0 (by simp)
    have x1 := C9 1 (by simp)
    have x2 := C9 2 (by simp)
    have x3 := C9 3 (by simp)
    have x4 := C9 4 (by simp)
    have x5 := C9 5 (by simp)
    have x6 := C9 6 (by simp)
    have x7 := C9 7 (by simp)
    have x8 := C9 8 (by simp)
    have x9 := C9 9 (by simp)
    clear C9
    simp only [liE, liF, Nat.zero_add] at x0 x1 x2 x3 x4 x5 x6 x7 x8 x9
    go_wp2_with fail
    refine bodyPost_ret (v := .tuple #[hoV ⟨m, b, c, d, bs, List.replicate m bx0, [], [], 0, 0⟩ ⟨some ⟨g1, 0, none⟩, n, k1, some ⟨w2.heap.size, 0, none⟩, m, m, none, 0, 0, none, 0, 0⟩, .int .i64 0]) (by simp [results, Tryz.results14, go_sem, x0, x1, x2, x3, x4, x5, x6, x7, x8, x9]) rfl ?_
    exact ⟨g1, k1, _, rfl, HO9.out, HS9.out.b⟩
end Go.Proofs.YtaamahohdnbpiaaGreat
namespace Go.Proofs.YtaamahohdnbpiaaGreat
open Go.RowKit
theorem lt_of_some {w : World} {g : Nat} {o : Obj} (hg : w.heap[g]? = some o) : g < w.heap.size := by
  rcases Nat.lt_or_ge g w.heap.size with h | h
  · exact h
  · rw [Array.getElem?_eq_none h] at hg; cases hg
theorem own_slice {w : World} {B n E sz : Nat} {v : Value} {xs : List Value} (ho : w.ownsRow B E sz v n xs) (hv : v ≠ .slice none 0 0) :
    ∃ g cap, v = .slice (some ⟨g, 0, none⟩) n cap ∧ B ≤ g ∧ g < w.heap.size ∧ n ≤ cap ∧ ∀ W : World, W.heap[g]? = w.heap[g]? → ∀ t, t < n * sz → W.cell? ⟨g, t, none⟩ = xs[t]? := by
  rcases ho.2 with ⟨e, _⟩ | ⟨g, cap, cur, hv', hb, hg, hcp, hmx, hsz, htk⟩
  · exact absurd e hv
  · refine ⟨g, cap, hv', hb, lt_of_some hg, hcp, fun W hW t ht => ?_⟩
    have hcur : cur[t]? = xs[t]? := by rw [← htk, List.getElem?_take_of_lt ht, Array.getElem?_toList]
    have e : W.heap[g]? = some (.cells cur E (0, 0)) := hW.trans hg
    rw [← hcur]
    simp [World.cell?, e]
end Go.Proofs.YtaamahohdnbpiaaGreat
namespace Go.Proofs.YtaamahohdnbpiaaGreat
open Go.RowKit
theorem results_cell {fn : Func} {x : Tmp} {T : TypeId} (h : fn.results = #[.cell x T]) (tmps : Array Value) (w : World) (b : Nat) (V : Value) (h2 : tmps.getD x undef = .pointer (some ⟨b, 0, none⟩)) (hL : (loadVar T ⟨b, 0, none⟩).run Tryz.prog w = .ok V w) : (results fn tmps).run Tryz.prog w = .ok V w := by
  simp only [Array.getD_eq_getD_getElem?] at h2
  simp [results, h, h2, asAddr, hL]
theorem results_cell_tmp {fn : Func} {x y : Tmp} {T : TypeId} (h : fn.results = #[.cell x T, .tmp y]) (tmps : Array Value) (w : World) (b : Nat) (V : Value) (h2 : tmps.getD x undef = .pointer (some ⟨b, 0, none⟩)) (hL : (loadVar T ⟨b, 0, none⟩).run Tryz.prog w = .ok V w) : (results fn tmps).run Tryz.prog w = .ok (.tuple #[V, tmps.getD y undef]) w := by
  simp only [Array.getD_eq_getD_getElem?] at h2
  simp [results, h, h2, asAddr, hL]
def blk (w : World) (b : Nat) (l : List Value) (T : TypeId) : Prop := w.heap[b]? = some (.cells l.toArray T (0, 0))
theorem blk.new (w : World) (l : List Value) (T : TypeId) : blk (w.alloc (.cells l.toArray T)) w.heap.size l T := heap_alloc_new w _
theorem blk.alloc {w : World} {b : Nat} {l : List Value} {T : TypeId} (h : blk w b l T) (o : Obj) : blk (w.alloc o) b l T := (Below.heap_alloc _ _ _ (lt_of_some h)).trans h
theorem blk.below {w w' : World} {b : Nat} {l : List Value} {T : TypeId} (h : blk w b l T) (hb : Below w.heap.size w w') : blk w' b l T := (hb.block _ (lt_of_some h)).trans h
theorem blk.lt {w : World} {b : Nat} {l : List Value} {T : TypeId} (h : blk w b l T) : b < w.heap.size := lt_of_some h
theorem blk.put {w : World} {b : Nat} {T : TypeId} (pre old post vs : List Value) (h : blk w b (pre ++ old ++ post) T) (hl : old.length = vs.length) : blk (w.setCells b pre.length vs) b (pre ++ vs ++ post) T := setCells_block b T vs old pre post w hl h
theorem blk.other {w : World} {b b' : Nat} {l : List Value} {T : TypeId} (h : blk w b l T) (hb : b ≠ b') (o : Nat) (vs : List Value) : blk (w.setCells b' o vs) b l T := (setCells_other b' b hb vs w o).trans h
theorem blk.load {w : World} {b : Nat} {l : List Value} {T : TypeId} (h : blk w b l T) : w.rangeAt b 0 l := range_block h
theorem blk.there {w : World} {b : Nat} {l : List Value} {T : TypeId} (h : blk w b l T) (o n : Nat) (ho : o + n ≤ l.length) : w.there b o n := there_block h o n ho
theorem blk.cell {w : World} {b : Nat} {l : List Value} {T : TypeId} (h : blk w b l T) (o : Nat) (v : Value) (ho : l[o]? = some v) : w.cell? ⟨b, o, none⟩ = some v := by
  have := range_block h o v ho
  simpa using this
theorem blk.free {w : World} {b : Nat} {l : List Value} {T : TypeId} (h : blk w b l T) (o : Nat) : w.frozen? ⟨b, o, none⟩ = false := by
  unfold World.frozen?
  rw [h]
  simp
theorem blk.kept {w w' : World} {b : Nat} {l : List Value} {T : TypeId} (h : blk w b l T) (he : w'.heap[b]? = w.heap[b]?) : blk w' b l T := he.trans h
theorem setCells_size (w : World) (b o : Nat) (vs : List Value) : (w.setCells b o vs).heap.size = w.heap.size := by rw [setCells_row, setRow_size]
theorem setCells_below {B b : Nat} (hB : B ≤ b) {w0 w : World} (o : Nat) (vs : List Value) (h : Below B w0 w) : Below B w0 (w.setCells b o vs) := by rw [setCells_row]; exact setRow_below b B hB w0 vs w o h
theorem sz93 : (Tryz.prog.info? 25).map (·.size) = some 5 := by kernel_rfl
theorem one5 (e : Bool) (i : Int) (r : Bool) (d : Int) (a : Option Addr) (n c : Nat) : (#[.bool e, .int .u32 i, .bool r, .int .i64 d, .slice a n c] : Array Value).all (·.oneCell') = true :=
  all_oneCell_toArray (by simp [Value.oneCell'])
end Go.Proofs.YtaamahohdnbpiaaGreat
namespace Go.Proofs.YtaamahohdnbpiaaGreat
open Go.RowKit
structure Rc (α : Type) where
  enc : α → List Value
  ld : α → List Nat
  gd : α → Nat
  kd : α → Nat
theorem flat_at {α : Type} (f : α → List Value) (sz : Nat) (hf : ∀ p, (f p).length = sz) : ∀ (rs : List α) (j : Nat) (h : j < rs.length) (t : Nat), t < sz → (rs.flatMap f)[j * sz + t]? = (f rs[j])[t]? := by
  intro rs
  induction rs with
  | nil => intro j h; exact absurd h (Nat.not_lt_zero _)
  | cons p rs ih =>
    intro j h t ht
    rw [List.flatMap_cons]
    cases j with
    | zero => rw [Nat.zero_mul, Nat.zero_add, List.getElem?_append_left (by rw [hf]; exact ht)]; rfl
    | succ j =>
      rw [List.getElem?_append_right (by rw [hf, Nat.succ_mul]; omega), hf, show (j + 1) * sz + t - sz = j * sz + t by rw [Nat.succ_mul]; omega, ih j (by simpa using h) t ht]
      rfl
structure ownG {α : Type} (F : Rc α) (w : World) (B E sz g k : Nat) (rs : List α) : Prop where
  own : w.ownsRow B E sz (.slice (some ⟨g, 0, none⟩) rs.length k) rs.length (rs.flatMap F.enc)
  dat : ∀ p ∈ rs, isBytes w (some ⟨F.gd p, 0, none⟩) (F.ld p).length (F.kd p) (F.ld p) ∧ B ≤ F.gd p ∧ F.gd p ≠ g ∧ F.gd p < w.heap.size
theorem ownsRow_kept {w w' : World} {B E sz g n k : Nat} {xs : List Value} (h : w.ownsRow B E sz (.slice (some ⟨g, 0, none⟩) n k) n xs) (he : w'.heap[g]? = w.heap[g]?) : w'.ownsRow B E sz (.slice (some ⟨g, 0, none⟩) n k) n xs := by
  refine ⟨h.1, ?_⟩
  rcases h.2 with ⟨e, _⟩ | ⟨g1, cap, cur, hv', hb, hg, hcp, hmx, hsz, htk⟩
  · cases e
  · have e1 : g1 = g := by cases hv'; rfl
    subst e1
    exact .inr ⟨g1, cap, cur, hv', hb, he.trans hg, hcp, hmx, hsz, htk⟩
theorem ownG.lt {α : Type} {F : Rc α} {w : World} {B E sz g k : Nat} {rs : List α} (h : ownG F w B E sz g k rs) : B ≤ g ∧ g < w.heap.size := World.ownsRow.lt h.own g rfl
theorem ownG.kept {α : Type} {F : Rc α} {w w' : World} {B E sz g k : Nat} {rs : List α} (h : ownG F w B E sz g k rs) (he : ∀ b, B ≤ b → b < w.heap.size → w'.heap[b]? = w.heap[b]?) (hz : w.heap.size ≤ w'.heap.size) : ownG F w' B E sz g k rs := by
  have hl := h.lt
  refine ⟨ownsRow_kept h.own (he g hl.1 hl.2), fun p hp => ?_⟩
  obtain ⟨h1, h2, h3, h4⟩ := h.dat p hp
  exact ⟨h1.other (he _ h2 h4), h2, h3, Nat.lt_of_lt_of_le h4 hz⟩
theorem ownG.below {α : Type} {F : Rc α} {w w' : World} {B E sz g k : Nat} {rs : List α} (h : ownG F w B E sz g k rs) (hb : Below w.heap.size w w') : ownG F w' B E sz g k rs := h.kept (fun b _ h2 => hb.block b h2) hb.size
theorem ownG.alloc {α : Type} {F : Rc α} {w : World} {B E sz g k : Nat} {rs : List α} (h : ownG F w B E sz g k rs) (o : Obj) : ownG F (w.alloc o) B E sz g k rs := h.kept (fun b _ h2 => Below.heap_alloc _ _ _ h2) (by simp)
theorem ownG.set {α : Type} {F : Rc α} {w : World} {B E sz g k : Nat} {rs : List α} (h : ownG F w B E sz g k rs) (b o : Nat) (hb : b < B) (vs : List Value) : ownG F (w.setCells b o vs) B E sz g k rs := h.kept (fun k hk _ => setCells_other b k (by omega) vs w o) (by rw [setCells_size]; exact Nat.le_refl _)
theorem ownG.nil {α : Type} (F : Rc α) (w : World) (B E sz : Nat) (hB : B ≤ w.heap.size) : ownG F (w.alloc (.cells #[] E)) B E sz w.heap.size 0 [] :=
  ⟨World.ownsRow_made w #[] 0 hB (by decide) (by simp), fun p hp => by cases hp⟩
def rc8 : Rc (R8 × Nat × Nat) := ⟨fun p => [.int .i64 p.1.x, .int .i64 p.1.y, .int .i64 p.1.z, .bool p.1.e, .int .u32 (p.1.i : Int), .bool p.1.r, .int .i64 p.1.d, .slice (some ⟨p.2.1, 0, none⟩) p.1.l.length p.2.2], fun p => p.1.l, fun p => p.2.1, fun p => p.2.2⟩
def rc5 : Rc (R5 × Nat × Nat) := ⟨fun p => [.bool p.1.e, .int .u32 (p.1.i : Int), .bool p.1.r, .int .i64 p.1.d, .slice (some ⟨p.2.1, 0, none⟩) p.1.l.length p.2.2], fun p => p.1.l, fun p => p.2.1, fun p => p.2.2⟩
theorem ownG.r8 {w : World} {B E g k : Nat} {rs : List (R8 × Nat × Nat)} (h : ownG rc8 w B E 8 g k rs) : St B w (fun W => isR8s W (some ⟨g, 0, none⟩) rs.length k (rs.map (·.1))) := by
  intro W hW
  have hl := h.lt
  have hwW := fun b hb1 hb2 => hW b hb1 hb2
  obtain ⟨g1, c1, e1, q1, q2, q3, q4⟩ := own_slice h.own (by intro e; cases e)
  cases e1
  refine ⟨by simp, q3, fun _ => ⟨g, 0, rfl, fun j hj => ?_⟩⟩
  have hj' : j < rs.length := by simpa using hj
  obtain ⟨d1, d2, d3, d4⟩ := h.dat rs[j] (List.getElem_mem hj')
  have hc : ∀ t, t < 8 → W.cell? ⟨g, j * 8 + t, none⟩ = (rc8.enc rs[j])[t]? := fun t ht => by
    rw [q4 W (hW g hl.1 hl.2) (j * 8 + t) (by omega), flat_at rc8.enc 8 (fun _ => rfl) rs j hj' t ht]
  rw [Nat.zero_add, List.getElem_map]
  exact ⟨_, _, _, hc 0 (by omega), hc 1 (by omega), hc 2 (by omega), hc 3 (by omega), hc 4 (by omega), hc 5 (by omega), hc 6 (by omega), hc 7 (by omega), d1.other (hW _ d2 d4)⟩
theorem ownG.r5 {w : World} {B E g k : Nat} {rs : List (R5 × Nat × Nat)} (h : ownG rc5 w B E 5 g k rs) : St B w (fun W => isR5s W (some ⟨g, 0, none⟩) rs.length k (rs.map (·.1))) := by
  intro W hW
  have hl := h.lt
  obtain ⟨g1, c1, e1, q1, q2, q3, q4⟩ := own_slice h.own (by intro e; cases e)
  cases e1
  refine ⟨by simp, q3, fun _ => ⟨g, 0, rfl, fun j hj => ?_⟩⟩
  have hj' : j < rs.length := by simpa using hj
  obtain ⟨d1, d2, d3, d4⟩ := h.dat rs[j] (List.getElem_mem hj')
  have hc : ∀ t, t < 5 → W.cell? ⟨g, j * 5 + t, none⟩ = (rc5.enc rs[j])[t]? := fun t ht => by
    rw [q4 W (hW g hl.1 hl.2) (j * 5 + t) (by omega), flat_at rc5.enc 5 (fun _ => rfl) rs j hj' t ht]
  rw [Nat.zero_add, List.getElem_map]
  exact ⟨_, _, _, hc 0 (by omega), hc 1 (by omega), hc 2 (by omega), hc 3 (by omega), hc 4 (by omega), d1.other (hW _ d2 d4)⟩
end Go.Proofs.YtaamahohdnbpiaaGreat
namespace Go.Proofs.YtaamahohdnbpiaaGreat
open Go.RowKit
theorem at8.range {w : World} {g o : Nat} {b : R8} {ao : Option Addr} {m c : Nat} (h : at8 w g o b ao m c) : w.rangeAt g o [.int .i64 b.x, .int .i64 b.y, .int .i64 b.z, .bool b.e, .int .u32 (b.i : Int), .bool b.r, .int .i64 b.d, .slice ao m c] := by
  intro j v hv
  match j, hv with
  | 0, hv => cases hv; exact h.c0
  | 1, hv => cases hv; exact h.c1
  | 2, hv => cases hv; exact h.c2
  | 3, hv => cases hv; exact h.c3
  | 4, hv => cases hv; exact h.c4
  | 5, hv => cases hv; exact h.c5
  | 6, hv => cases hv; exact h.c6
  | 7, hv => cases hv; exact h.cs
theorem at5.range {w : World} {g o : Nat} {b : R5} {ao : Option Addr} {m c : Nat} (h : at5 w g o b ao m c) : w.rangeAt g o [.bool b.e, .int .u32 (b.i : Int), .bool b.r, .int .i64 b.d, .slice ao m c] := by
  intro j v hv
  match j, hv with
  | 0, hv => cases hv; exact h.c0
  | 1, hv => cases hv; exact h.c1
  | 2, hv => cases hv; exact h.c2
  | 3, hv => cases hv; exact h.c3
  | 4, hv => cases hv; exact h.cs
theorem at3.range {w : World} {g o : Nat} {b : R3} (h : at3 w g o b) : w.rangeAt g o [.bool b.e, .int .u32 b.m, .int .u32 b.k] := by
  intro j v hv
  match j, hv with
  | 0, hv => cases hv; exact h.c0
  | 1, hv => cases hv; exact h.c1
  | 2, hv => cases hv; exact h.c2
theorem blk.loadAt {w : World} {b : Nat} (pre mid post : List Value) {T : TypeId} (h : blk w b (pre ++ mid ++ post) T) : w.rangeAt b pre.length mid := by
  intro j v hv
  have hj : j < mid.length := (List.getElem?_eq_some_iff.1 hv).1
  refine h.cell _ _ ?_
  rw [List.append_assoc, List.getElem?_append_right (by omega), Nat.add_sub_cancel_left, List.getElem?_append_left hj]
  exact hv
end Go.Proofs.YtaamahohdnbpiaaGreat
