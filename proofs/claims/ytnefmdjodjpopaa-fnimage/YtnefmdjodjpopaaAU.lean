import Derived.Test.YtnefmdjodjpopaaAT
namespace Go.Proofs.Ytnefmdjodjpopaa
open Go.RowKit

/-- the walk over a text -/
def walkZ (s : ByteArray) : Wk := if okT s 4000 = true then Wk.init.over (lt s) else { Wk.init with code := 8 }
theorem walkOver_z (s : ByteArray) (w : World) :
    Calls Try.prog 70 #[.string s] w fun e w' => ∃ ao cap, e = .returned (Wk.val (walkZ s) (.slice ao (walkZ s).data.length cap)) ∧ ownsB w' w.heap.size (.slice ao (walkZ s).data.length cap) (walkZ s).data ∧ Below w.heap.size w w' := by
  refine (walkOver_any s w).mono ?_
  rintro e w' ⟨v, he, ho, hb⟩
  obtain ⟨ao, cap, rfl⟩ := ho.sliced
  exact ⟨ao, cap, he, ho, hb⟩
def judgeV (k : Wk) : Value := if goesOnB k.code = true then .agg #[.int .i64 (k.code : Int), .int .i64 (k.field : Int), .bool k.due, .bool k.crcOk] else .agg #[.int .i64 (k.code : Int), .int .i64 0, .bool false, .bool false]
/-- the result's block of impl.Judge -/
theorem ju_res {w w1 : World} (h : Below (w.alloc (.cells #[.int .i64 0, .int .i64 0, .bool false, .bool false] 39)).heap.size (w.alloc (.cells #[.int .i64 0, .int .i64 0, .bool false, .bool false] 39)) w1) :
    w1.heap[w.heap.size]? = some (.cells #[.int .i64 0, .int .i64 0, .bool false, .bool false] 39 (0, 0)) ∧ Below w.heap.size w w1 := by
  refine ⟨(h.block _ (by simp)).trans (heap_alloc_new w _), ?_⟩
  exact ((Below.refl w.heap.size w).alloc (Nat.le_refl _) _).trans (h.mono (by simp))

theorem ju_S0 {B g b : Nat} {k : Wk} {v : Value} {w W V : World} (q : Nat) (he : V = W.drewN q) (hw : wkAt W b k v) (hr : W.heap[g]? = some (.cells #[.int .i64 0, .int .i64 0, .bool false, .bool false] 39 (0, 0))) (hb : Below B w W) (hg : B ≤ g) : V.cell? ⟨b, 0, none⟩ = some (.int .i64 (k.field : Int)) ∧ V.cell? ⟨b, 11, none⟩ = some (.int .i64 (k.code : Int)) ∧ wkAt V b k v ∧ (∃ x0 x1 x2 x3, V.heap[g]? = some (.cells #[x0, x1, x2, x3] 39 (0, 0))) ∧ Below B w V ∧ B ≤ g := by
  have hw' : wkAt V b k v := by rw [he]; exact hw
  have hr' : V.heap[g]? = some (.cells #[.int .i64 0, .int .i64 0, .bool false, .bool false] 39 (0, 0)) := by rw [he]; exact hr
  have hb' : Below B w V := by rw [he]; exact below_drewN hb q
  obtain ⟨c0, -, -, -, -, -, -, -, -, -, -, c11⟩ := hw'.cells
  exact ⟨c0, c11, hw', ⟨_, _, _, _, hr'⟩, hb', hg⟩
theorem ju_S1 {B g b : Nat} {k : Wk} {v : Value} {w V V' : World} (h : V.cell? ⟨b, 0, none⟩ = some (.int .i64 (k.field : Int)) ∧ V.cell? ⟨b, 11, none⟩ = some (.int .i64 (k.code : Int)) ∧ wkAt V b k v ∧ (∃ x0 x1 x2 x3, V.heap[g]? = some (.cells #[x0, x1, x2, x3] 39 (0, 0))) ∧ Below B w V ∧ B ≤ g) (he : ∃ q, V' = V.drewN q) : V'.cell? ⟨b, 0, none⟩ = some (.int .i64 (k.field : Int)) ∧ V'.cell? ⟨b, 11, none⟩ = some (.int .i64 (k.code : Int)) ∧ wkAt V' b k v ∧ (∃ x0 x1 x2 x3, V'.heap[g]? = some (.cells #[x0, x1, x2, x3] 39 (0, 0))) ∧ Below B w V' ∧ B ≤ g := by
  obtain ⟨q, rfl⟩ := he
  obtain ⟨h0, h1, h2, h3, h4, h5⟩ := h
  exact ⟨h0, h1, h2, h3, below_drewN h4 q, h5⟩
theorem ju_S2 {B g b : Nat} {k : Wk} {v : Value} {w V : World} (h : V.cell? ⟨b, 0, none⟩ = some (.int .i64 (k.field : Int)) ∧ V.cell? ⟨b, 11, none⟩ = some (.int .i64 (k.code : Int)) ∧ wkAt V b k v ∧ (∃ x0 x1 x2 x3, V.heap[g]? = some (.cells #[x0, x1, x2, x3] 39 (0, 0))) ∧ Below B w V ∧ B ≤ g) (j : Nat) (x : Value) (hj : j < 4) : (V.setCell ⟨g, j, none⟩ x).cell? ⟨b, 0, none⟩ = some (.int .i64 (k.field : Int)) ∧ (V.setCell ⟨g, j, none⟩ x).cell? ⟨b, 11, none⟩ = some (.int .i64 (k.code : Int)) ∧ wkAt (V.setCell ⟨g, j, none⟩ x) b k v ∧ (∃ x0 x1 x2 x3, (V.setCell ⟨g, j, none⟩ x).heap[g]? = some (.cells #[x0, x1, x2, x3] 39 (0, 0))) ∧ Below B w (V.setCell ⟨g, j, none⟩ x) ∧ B ≤ g := by
  obtain ⟨h0, h1, h2, ⟨x0, x1, x2, x3, h3⟩, h4, h5⟩ := h
  have hne : ¬ b = g := by intro e; unfold wkAt at h2; rw [e, h3] at h2; cases h2
  have h2' : wkAt (V.setCell ⟨g, j, none⟩ x) b k v := (heap_setCell_other V ⟨g, j, none⟩ b x (by exact hne)).trans h2
  have h3' := heap_setCell_same V g j _ _ x h3
  obtain ⟨c0, -, -, -, -, -, -, -, -, -, -, c11⟩ := h2'.cells
  refine ⟨c0, c11, h2', ?_, h4.setCell (by exact h5) x, h5⟩
  rcases (show j = 0 ∨ j = 1 ∨ j = 2 ∨ j = 3 from by omega) with rfl | rfl | rfl | rfl <;> exact ⟨_, _, _, _, h3'⟩
theorem ju_d {g : Nat} {V : World} (h : ∃ x0 x1 x2 x3, V.heap[g]? = some (.cells #[x0, x1, x2, x3] 39 (0, 0))) : ∃ x0 x1 x2 x3, V.cell? ⟨g, 0, none⟩ = some x0 ∧ V.cell? ⟨g, 1, none⟩ = some x1 ∧ V.cell? ⟨g, 2, none⟩ = some x2 ∧ V.cell? ⟨g, 3, none⟩ = some x3 ∧ V.frozen? ⟨g, 0, none⟩ = false ∧ V.frozen? ⟨g, 1, none⟩ = false ∧ V.frozen? ⟨g, 2, none⟩ = false ∧ V.frozen? ⟨g, 3, none⟩ = false := by
  obtain ⟨x0, x1, x2, x3, hr⟩ := h
  refine ⟨x0, x1, x2, x3, ?_, ?_, ?_, ?_, ?_, ?_, ?_, ?_⟩ <;> simp [World.cell?, World.frozen?, hr]
theorem ju_wk {B g b : Nat} {k : Wk} {v : Value} {w V : World} (h : V.cell? ⟨b, 0, none⟩ = some (.int .i64 (k.field : Int)) ∧ V.cell? ⟨b, 11, none⟩ = some (.int .i64 (k.code : Int)) ∧ wkAt V b k v ∧ (∃ x0 x1 x2 x3, V.heap[g]? = some (.cells #[x0, x1, x2, x3] 39 (0, 0))) ∧ Below B w V ∧ B ≤ g) : wkAt V b k v := h.2.2.1
theorem ju_be {B g b : Nat} {k : Wk} {v : Value} {w V : World} (h : V.cell? ⟨b, 0, none⟩ = some (.int .i64 (k.field : Int)) ∧ V.cell? ⟨b, 11, none⟩ = some (.int .i64 (k.code : Int)) ∧ wkAt V b k v ∧ (∃ x0 x1 x2 x3, V.heap[g]? = some (.cells #[x0, x1, x2, x3] 39 (0, 0))) ∧ Below B w V ∧ B ≤ g) : Below B w V := h.2.2.2.2.1
theorem be4 {B g : Nat} {w V : World} (x0 x1 x2 x3 : Value) (h : Below B w V) (hg : B ≤ g) : Below B w ((((V.setCell ⟨g, 0, none⟩ x0).setCell ⟨g, 1, none⟩ x1).setCell ⟨g, 2, none⟩ x2).setCell ⟨g, 3, none⟩ x3) :=
  (((h.setCell (by exact hg) x0).setCell (by exact hg) x1).setCell (by exact hg) x2).setCell (by exact hg) x3

set_option maxHeartbeats 4000000 in
theorem judge_any (s : ByteArray) (w : World) :
    Calls Try.prog 30 #[.string s] w fun e w' => e = .returned (judgeV (walkZ s)) ∧ Below w.heap.size w w' := by
  go_enter Try.func30, Try.ntmps30
  go_wp2_with fail
  refine (walkOver_z s _).mono ?_
  rintro e w1 ⟨ao, cap, rfl, ho, hb1⟩
  obtain ⟨hr, hb⟩ := ju_res hb1
  clear hb1 ho
  generalize hz : walkZ s = k at *
  have HZ : Hid (walkZ s = k) := hz
  clear hz
  unfold Wk.val
  go_wp2_with fail
  have hw : wkAt (w1.alloc (.cells #[.int .i64 (k.field : Int), .int .i64 (k.taken : Int), .int .i32 (k.last.1 : Int), .int .i64 (k.last.2 : Int), .int .i64 (k.sum : Int), .int .i64 (k.crc : Int), .bool k.ext, .int .u32 (k.id : Int), .bool k.rtr, .int .i64 (k.dlc : Int), .slice ao k.data.length cap, .int .i64 (k.code : Int)] 78)) w1.heap.size k (.slice ao k.data.length cap) := heap_alloc_new w1 _
  have hr2 := (Below.heap_alloc w1 (.cells #[.int .i64 (k.field : Int), .int .i64 (k.taken : Int), .int .i32 (k.last.1 : Int), .int .i64 (k.last.2 : Int), .int .i64 (k.sum : Int), .int .i64 (k.crc : Int), .bool k.ext, .int .u32 (k.id : Int), .bool k.rtr, .int .i64 (k.dlc : Int), .slice ao k.data.length cap, .int .i64 (k.code : Int)] 78) w.heap.size (lt_of_block hr)).trans hr
  have hb2 := hb.alloc hb.size (.cells #[.int .i64 (k.field : Int), .int .i64 (k.taken : Int), .int .i32 (k.last.1 : Int), .int .i64 (k.last.2 : Int), .int .i64 (k.sum : Int), .int .i64 (k.crc : Int), .bool k.ext, .int .u32 (k.id : Int), .bool k.rtr, .int .i64 (k.dlc : Int), .slice ao k.data.length cap, .int .i64 (k.code : Int)] 78)
  generalize w1.alloc (.cells #[.int .i64 (k.field : Int), .int .i64 (k.taken : Int), .int .i32 (k.last.1 : Int), .int .i64 (k.last.2 : Int), .int .i64 (k.sum : Int), .int .i64 (k.crc : Int), .bool k.ext, .int .u32 (k.id : Int), .bool k.rtr, .int .i64 (k.dlc : Int), .slice ao k.data.length cap, .int .i64 (k.code : Int)] 78) = W at *
  clear hr hb
  generalize w1.heap.size = b at *
  have HW : Hid (wkAt W b k (.slice ao k.data.length cap) ∧ W.heap[w.heap.size]? = some (.cells #[.int .i64 0, .int .i64 0, .bool false, .bool false] 39 (0, 0)) ∧ Below w.heap.size w W) := ⟨hw, hr2, hb2⟩
  clear hw hr2 hb2
  refine (goesOn_any _ _).mono ?_
  by_cases hg : goesOnB k.code = true
  · have hg' := hg
    unfold goesOnB at hg'
    rw [hg']
    rintro e w2 ⟨rfl, rfl⟩
    have HG : Hid (goesOnB k.code = true) := hg
    clear hg hg'
    go_wp2_with fail
    go_region_held3 (fun V => V.cell? ⟨b, 0, none⟩ = some (.int .i64 (k.field : Int)) ∧ V.cell? ⟨b, 11, none⟩ = some (.int .i64 (k.code : Int)) ∧ wkAt V b k (.slice ao k.data.length cap) ∧ (∃ x0 x1 x2 x3, V.heap[w.heap.size]? = some (.cells #[x0, x1, x2, x3] 39 (0, 0))) ∧ Below w.heap.size w V ∧ w.heap.size ≤ w.heap.size) (first | exact ju_S0 1 rfl HW.out.1 HW.out.2.1 HW.out.2.2 (Nat.le_refl _) | exact ju_S1 (by assumption) (by assumption) | assumption | exact ju_S2 (ju_S2 (ju_S2 (ju_S2 (by assumption) 0 _ (by decide)) 1 _ (by decide)) 2 _ (by decide)) 3 _ (by decide)) (first | (go_at_call 72; refine (due_wk _ b k _ (ju_wk (by assumption))).mono ?_; rintro o w3 ⟨rfl, rfl⟩) | (go_at_call 73; refine (crcOk_wk _ b k _ (ju_wk (by assumption))).mono ?_; rintro o w4 ⟨rfl, hq4⟩; obtain ⟨x0, x1, x2, x3, d0, d1, d2, d3, z0, z1, z2, z3⟩ := ju_d (V := w4) (ju_S1 (by assumption) hq4).2.2.2.1))
    go_wp2
    refine bodyPost_ret (v := judgeV k) ?_ rfl ⟨by rw [HZ.out], ?_⟩
    · simp [results, Try.results30, go_sem, judgeV, HG.out, d0, d1, d2, d3]
    · obtain ⟨q, rfl⟩ := hq4
      exact be4 _ _ _ _ (below_drewN HW.out.2.2.drew q) (Nat.le_refl _)
  · have hg' : goesOnB k.code = false := by simpa using hg
    unfold goesOnB at hg'
    rw [hg']
    rintro e w2 ⟨rfl, rfl⟩
    obtain ⟨c0, -, -, -, -, -, -, -, -, -, -, c11⟩ := HW.out.1.cells
    obtain ⟨x0, x1, x2, x3, d0, d1, d2, d3, z0, z1, z2, z3⟩ := ju_d ⟨_, _, _, _, HW.out.2.1⟩
    have HG : Hid (¬ goesOnB k.code = true) := hg
    clear hg hg'
    go_wp2
    refine bodyPost_ret (v := judgeV k) ?_ rfl ⟨by rw [HZ.out], ?_⟩
    · simp [results, Try.results30, go_sem, judgeV, HG.out, d0, d1, d2, d3]
    · exact be4 _ _ _ _ HW.out.2.2 (Nat.le_refl _)
end Go.Proofs.Ytnefmdjodjpopaa
