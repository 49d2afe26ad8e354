import Derived.Test.YtaamahohdnbpiaaGreatNG
import Derived.Test.YtaamahohdnbpiaaGreatLK
import Derived.Test.YtaamahohdnbpiaaGreatG12
import Derived.Test.YtaamahohdnbpiaaGreatVA
import Derived.Test.YtaamahohdnbpiaaGreatG19
namespace Go.Proofs.YtaamahohdnbpiaaGreat
open Go.RowKit
set_option linter.unusedVariables false
set_option maxHeartbeats 4000000 in
set_option maxRecDepth 20000 in
/-- spec.l3post of a full queue -/
theorem l3post_full (w : World) (c0 c1 c2 c3 lo st : Int) (a1 : Option Addr) (n1 k1 : Nat) (a2 : Option Addr) (n2 k2 : Nat) (a3 : Option Addr) (n3 k3 : Nat) (a4 : Option Addr) (n4 k4 : Nat) (x y z : Int) (e : Bool) (i : Nat) (r : Bool) (d : Int) (ao : Option Addr) (m c : Nat) (hq : c3 ≤ (n4 : Int)) (hlo : 0 ≤ lo ∧ lo ≤ 100000) :
    Calls Tryz.prog 143 #[.agg [.int .i64 c0, .int .i64 c1, .int .i64 c2, .int .i64 c3, .slice a1 n1 k1, .slice a2 n2 k2, .slice a3 n3 k3, .slice a4 n4 k4, .int .i64 lo, .int .i64 st].toArray, .int .i64 x, .int .i64 y, .int .i64 z, frV e i r d ao m c] w fun o w' => o = .returned (.agg #[.int .i64 c0, .int .i64 c1, .int .i64 c2, .int .i64 c3, .slice a1 n1 k1, .slice a2 n2 k2, .slice a3 n3 k3, .slice a4 n4 k4, .int .i64 (if lo < 100000 then lo + 1 else lo), .int .i64 st]) ∧ Below w.heap.size w w' := by
  have H0 : Hid (ptS w [.int .i64 c0, .int .i64 c1, .int .i64 c2, .int .i64 c3, .slice a1 n1 k1, .slice a2 n2 k2, .slice a3 n3 k3, .slice a4 n4 k4, .int .i64 lo, .int .i64 st] [.bool e, .int .u32 (i : Int), .bool r, .int .i64 d, .slice ao m c] (((w.alloc (.cells [.int .i64 c0, .int .i64 c1, .int .i64 c2, .int .i64 c3, .slice a1 n1 k1, .slice a2 n2 k2, .slice a3 n3 k3, .slice a4 n4 k4, .int .i64 lo, .int .i64 st].toArray 35)).alloc (.cells [.bool e, .int .u32 (i : Int), .bool r, .int .i64 d, .slice ao m c].toArray 25)).alloc (.cells [.int .i64 0, .int .i64 0, .int .i64 0, .int .i64 0, .slice none 0 0, .slice none 0 0, .slice none 0 0, .slice none 0 0, .int .i64 0, .int .i64 0].toArray 35))) := ptS.new w _ _
  have x3 := H0.out.p.cell 3 _ rfl
  have x7 := H0.out.p.cell 7 _ rfl
  have x8 := H0.out.p.cell 8 _ rfl
  have f8 := H0.out.p.free 8
  obtain ⟨hl0, hl1⟩ := hlo
  have hq' : decide (c3 ≤ (n4 : Int)) = true := by simpa using hq
  by_cases hl : lo < 100000
  · rw [if_pos hl]
    have hwr : IntKind.i64.wrap (lo + 1) = lo + 1 := by rw [IntKind.wrap_i64]; omega
    clear H0
    go_enter Tryz.func143, Tryz.ntmps143
    go_wp2_with fail
    have hF : blk (((w.alloc (.cells [.int .i64 c0, .int .i64 c1, .int .i64 c2, .int .i64 c3, .slice a1 n1 k1, .slice a2 n2 k2, .slice a3 n3 k3, .slice a4 n4 k4, .int .i64 (lo + 1), .int .i64 st].toArray 35)).alloc (.cells [.bool e, .int .u32 (i : Int), .bool r, .int .i64 d, .slice ao m c].toArray 25)).alloc (.cells [.int .i64 c0, .int .i64 c1, .int .i64 c2, .int .i64 c3, .slice a1 n1 k1, .slice a2 n2 k2, .slice a3 n3 k3, .slice a4 n4 k4, .int .i64 (lo + 1), .int .i64 st].toArray 35)) (w.heap.size + 1 + 1) [.int .i64 c0, .int .i64 c1, .int .i64 c2, .int .i64 c3, .slice a1 n1 k1, .slice a2 n2 k2, .slice a3 n3 k3, .slice a4 n4 k4, .int .i64 (lo + 1), .int .i64 st] 35 := by
      have := blk.new ((w.alloc (.cells [.int .i64 c0, .int .i64 c1, .int .i64 c2, .int .i64 c3, .slice a1 n1 k1, .slice a2 n2 k2, .slice a3 n3 k3, .slice a4 n4 k4, .int .i64 (lo + 1), .int .i64 st].toArray 35)).alloc (.cells [.bool e, .int .u32 (i : Int), .bool r, .int .i64 d, .slice ao m c].toArray 25)) [.int .i64 c0, .int .i64 c1, .int .i64 c2, .int .i64 c3, .slice a1 n1 k1, .slice a2 n2 k2, .slice a3 n3 k3, .slice a4 n4 k4, .int .i64 (lo + 1), .int .i64 st] 35
      have e : ((w.alloc (.cells [.int .i64 c0, .int .i64 c1, .int .i64 c2, .int .i64 c3, .slice a1 n1 k1, .slice a2 n2 k2, .slice a3 n3 k3, .slice a4 n4 k4, .int .i64 (lo + 1), .int .i64 st].toArray 35)).alloc (.cells [.bool e, .int .u32 (i : Int), .bool r, .int .i64 d, .slice ao m c].toArray 25)).heap.size = w.heap.size + 1 + 1 := by simp
      rw [e] at this
      exact this
    have hL := run_loadVar_mid (P := Tryz.prog) (((w.alloc (.cells [.int .i64 c0, .int .i64 c1, .int .i64 c2, .int .i64 c3, .slice a1 n1 k1, .slice a2 n2 k2, .slice a3 n3 k3, .slice a4 n4 k4, .int .i64 (lo + 1), .int .i64 st].toArray 35)).alloc (.cells [.bool e, .int .u32 (i : Int), .bool r, .int .i64 d, .slice ao m c].toArray 25)).alloc (.cells [.int .i64 c0, .int .i64 c1, .int .i64 c2, .int .i64 c3, .slice a1 n1 k1, .slice a2 n2 k2, .slice a3 n3 k3, .slice a4 n4 k4, .int .i64 (lo + 1), .int .i64 st].toArray 35)) (w.heap.size + 1 + 1) 0 35 _ _ hF.load Tryz.underlying35 rfl sz41
    refine bodyPost_ret (v := .agg [.int .i64 c0, .int .i64 c1, .int .i64 c2, .int .i64 c3, .slice a1 n1 k1, .slice a2 n2 k2, .slice a3 n3 k3, .slice a4 n4 k4, .int .i64 (lo + 1), .int .i64 st].toArray) (results_cell Tryz.results143 _ (((w.alloc (.cells [.int .i64 c0, .int .i64 c1, .int .i64 c2, .int .i64 c3, .slice a1 n1 k1, .slice a2 n2 k2, .slice a3 n3 k3, .slice a4 n4 k4, .int .i64 (lo + 1), .int .i64 st].toArray 35)).alloc (.cells [.bool e, .int .u32 (i : Int), .bool r, .int .i64 d, .slice ao m c].toArray 25)).alloc (.cells [.int .i64 c0, .int .i64 c1, .int .i64 c2, .int .i64 c3, .slice a1 n1 k1, .slice a2 n2 k2, .slice a3 n3 k3, .slice a4 n4 k4, .int .i64 (lo + 1), .int .i64 st].toArray 35)) (w.heap.size + 1 + 1) _ rfl hL) rfl ?_
    exact ⟨rfl, (((Below.refl _ _).alloc (Nat.le_refl _) _).alloc (by simp) _).alloc (by simp; omega) _⟩
  · rw [if_neg hl]
    clear H0
    go_enter Tryz.func143, Tryz.ntmps143
    go_wp2_with fail
    have hF : blk (((w.alloc (.cells [.int .i64 c0, .int .i64 c1, .int .i64 c2, .int .i64 c3, .slice a1 n1 k1, .slice a2 n2 k2, .slice a3 n3 k3, .slice a4 n4 k4, .int .i64 lo, .int .i64 st].toArray 35)).alloc (.cells [.bool e, .int .u32 (i : Int), .bool r, .int .i64 d, .slice ao m c].toArray 25)).alloc (.cells [.int .i64 c0, .int .i64 c1, .int .i64 c2, .int .i64 c3, .slice a1 n1 k1, .slice a2 n2 k2, .slice a3 n3 k3, .slice a4 n4 k4, .int .i64 lo, .int .i64 st].toArray 35)) (w.heap.size + 1 + 1) [.int .i64 c0, .int .i64 c1, .int .i64 c2, .int .i64 c3, .slice a1 n1 k1, .slice a2 n2 k2, .slice a3 n3 k3, .slice a4 n4 k4, .int .i64 lo, .int .i64 st] 35 := by
      have := blk.new ((w.alloc (.cells [.int .i64 c0, .int .i64 c1, .int .i64 c2, .int .i64 c3, .slice a1 n1 k1, .slice a2 n2 k2, .slice a3 n3 k3, .slice a4 n4 k4, .int .i64 lo, .int .i64 st].toArray 35)).alloc (.cells [.bool e, .int .u32 (i : Int), .bool r, .int .i64 d, .slice ao m c].toArray 25)) [.int .i64 c0, .int .i64 c1, .int .i64 c2, .int .i64 c3, .slice a1 n1 k1, .slice a2 n2 k2, .slice a3 n3 k3, .slice a4 n4 k4, .int .i64 lo, .int .i64 st] 35
      have e : ((w.alloc (.cells [.int .i64 c0, .int .i64 c1, .int .i64 c2, .int .i64 c3, .slice a1 n1 k1, .slice a2 n2 k2, .slice a3 n3 k3, .slice a4 n4 k4, .int .i64 lo, .int .i64 st].toArray 35)).alloc (.cells [.bool e, .int .u32 (i : Int), .bool r, .int .i64 d, .slice ao m c].toArray 25)).heap.size = w.heap.size + 1 + 1 := by simp
      rw [e] at this
      exact this
    have hL := run_loadVar_mid (P := Tryz.prog) (((w.alloc (.cells [.int .i64 c0, .int .i64 c1, .int .i64 c2, .int .i64 c3, .slice a1 n1 k1, .slice a2 n2 k2, .slice a3 n3 k3, .slice a4 n4 k4, .int .i64 lo, .int .i64 st].toArray 35)).alloc (.cells [.bool e, .int .u32 (i : Int), .bool r, .int .i64 d, .slice ao m c].toArray 25)).alloc (.cells [.int .i64 c0, .int .i64 c1, .int .i64 c2, .int .i64 c3, .slice a1 n1 k1, .slice a2 n2 k2, .slice a3 n3 k3, .slice a4 n4 k4, .int .i64 lo, .int .i64 st].toArray 35)) (w.heap.size + 1 + 1) 0 35 _ _ hF.load Tryz.underlying35 rfl sz41
    refine bodyPost_ret (v := .agg [.int .i64 c0, .int .i64 c1, .int .i64 c2, .int .i64 c3, .slice a1 n1 k1, .slice a2 n2 k2, .slice a3 n3 k3, .slice a4 n4 k4, .int .i64 lo, .int .i64 st].toArray) (results_cell Tryz.results143 _ (((w.alloc (.cells [.int .i64 c0, .int .i64 c1, .int .i64 c2, .int .i64 c3, .slice a1 n1 k1, .slice a2 n2 k2, .slice a3 n3 k3, .slice a4 n4 k4, .int .i64 lo, .int .i64 st].toArray 35)).alloc (.cells [.bool e, .int .u32 (i : Int), .bool r, .int .i64 d, .slice ao m c].toArray 25)).alloc (.cells [.int .i64 c0, .int .i64 c1, .int .i64 c2, .int .i64 c3, .slice a1 n1 k1, .slice a2 n2 k2, .slice a3 n3 k3, .slice a4 n4 k4, .int .i64 lo, .int .i64 st].toArray 35)) (w.heap.size + 1 + 1) _ rfl hL) rfl ?_
    exact ⟨rfl, (((Below.refl _ _).alloc (Nat.le_refl _) _).alloc (by simp) _).alloc (by simp; omega) _⟩
end Go.Proofs.YtaamahohdnbpiaaGreat
namespace Go.Proofs.YtaamahohdnbpiaaGreat
open Go.RowKit
set_option linter.unusedVariables false
set_option maxHeartbeats 4000000 in
set_option maxRecDepth 20000 in
/-- spec.l3say where there is room -/
theorem l3say_more (w : World) (c0 c1 c2 c3 lo st : Int) (a1 : Option Addr) (n1 k1 : Nat) (a2 : Option Addr) (n2 k2 : Nat) (a3 : Option Addr) (n3 k3 : Nat) (B g4 n4 k4 : Nat) (rs : List (R8 × Nat × Nat)) (x y z : Int) (hq : (n4 : Int) < c3) (hn : n4 ≤ 1000) (hO : ownG rc8 w B 46 8 g4 k4 rs) (hrl : rs.length = n4) (hB : B ≤ w.heap.size) :
    Calls Tryz.prog 139 #[.agg [.int .i64 c0, .int .i64 c1, .int .i64 c2, .int .i64 c3, .slice a1 n1 k1, .slice a2 n2 k2, .slice a3 n3 k3, .slice (some ⟨g4, 0, none⟩) n4 k4, .int .i64 lo, .int .i64 st].toArray, .int .i64 x, .int .i64 y, .int .i64 z] w fun o w' => ∃ g' k' gd kd, o = .returned (.agg [.int .i64 c0, .int .i64 c1, .int .i64 c2, .int .i64 c3, .slice a1 n1 k1, .slice a2 n2 k2, .slice a3 n3 k3, .slice (some ⟨g', 0, none⟩) (n4 + 1) k', .int .i64 lo, .int .i64 st].toArray) ∧ ownG rc8 w' B 46 8 g' k' (rs ++ [(⟨x, y, z, false, 0, false, 0, []⟩, gd, kd)]) ∧ (∀ q, q ≠ g4 → q < w.heap.size → w'.heap[q]? = w.heap[q]?) ∧ (g' = g4 ∨ w.heap.size ≤ g') ∧ w.heap.size ≤ gd ∧ Below B w w' := by
  have HB0 : Hid (Below w.heap.size w ((w.alloc (.cells [.int .i64 c0, .int .i64 c1, .int .i64 c2, .int .i64 c3, .slice a1 n1 k1, .slice a2 n2 k2, .slice a3 n3 k3, .slice (some ⟨g4, 0, none⟩) n4 k4, .int .i64 lo, .int .i64 st].toArray 35)).alloc (.cells [.int .i64 0, .int .i64 0, .int .i64 0, .int .i64 0, .slice none 0 0, .slice none 0 0, .slice none 0 0, .slice none 0 0, .int .i64 0, .int .i64 0].toArray 35))) := ((Below.refl _ _).alloc (Nat.le_refl _) _).alloc (by simp) _
  have HR0 : Hid (blk ((w.alloc (.cells [.int .i64 c0, .int .i64 c1, .int .i64 c2, .int .i64 c3, .slice a1 n1 k1, .slice a2 n2 k2, .slice a3 n3 k3, .slice (some ⟨g4, 0, none⟩) n4 k4, .int .i64 lo, .int .i64 st].toArray 35)).alloc (.cells [.int .i64 0, .int .i64 0, .int .i64 0, .int .i64 0, .slice none 0 0, .slice none 0 0, .slice none 0 0, .slice none 0 0, .int .i64 0, .int .i64 0].toArray 35)) (w.heap.size + 1) Z10 35) := by
    have := blk.new (w.alloc (.cells [.int .i64 c0, .int .i64 c1, .int .i64 c2, .int .i64 c3, .slice a1 n1 k1, .slice a2 n2 k2, .slice a3 n3 k3, .slice (some ⟨g4, 0, none⟩) n4 k4, .int .i64 lo, .int .i64 st].toArray 35)) Z10 35
    have e : (w.alloc (.cells [.int .i64 c0, .int .i64 c1, .int .i64 c2, .int .i64 c3, .slice a1 n1 k1, .slice a2 n2 k2, .slice a3 n3 k3, .slice (some ⟨g4, 0, none⟩) n4 k4, .int .i64 lo, .int .i64 st].toArray 35)).heap.size = w.heap.size + 1 := by simp
    rw [e] at this
    exact this
  have HC : Hid (∀ X : World, Below w.heap.size w X → Calls Tryz.prog 143 #[.agg [.int .i64 c0, .int .i64 c1, .int .i64 c2, .int .i64 c3, .slice a1 n1 k1, .slice a2 n2 k2, .slice a3 n3 k3, .slice (some ⟨g4, 0, none⟩) n4 k4, .int .i64 lo, .int .i64 st].toArray, .int .i64 x, .int .i64 y, .int .i64 z, frV false 0 false 0 none 0 0] X fun o w' => ∃ g' k' gd kd, o = .returned (.agg [.int .i64 c0, .int .i64 c1, .int .i64 c2, .int .i64 c3, .slice a1 n1 k1, .slice a2 n2 k2, .slice a3 n3 k3, .slice (some ⟨g', 0, none⟩) (n4 + 1) k', .int .i64 lo, .int .i64 st].toArray) ∧ ownG rc8 w' B 46 8 g' k' (rs ++ [(⟨x, y, z, false, 0, false, 0, []⟩, gd, kd)]) ∧ (∀ q, q ≠ g4 → q < X.heap.size → w'.heap[q]? = X.heap[q]?) ∧ (g' = g4 ∨ X.heap.size ≤ g') ∧ X.heap.size ≤ gd ∧ Below B X w') := fun X hX => l3post_more X c0 c1 c2 c3 lo st a1 n1 k1 a2 n2 k2 a3 n3 k3 B g4 n4 k4 rs x y z false 0 false 0 none 0 [] hq hn (hO.kept (fun b _ h2 => hX.block b h2) hX.size) hrl (Nat.le_trans hB hX.size) ⟨rfl, Nat.le_refl _, fun q hq => (by cases hq), fun h => absurd rfl h⟩ (by simp)
  have HG4 : Hid (g4 < w.heap.size ∧ ∀ p ∈ rs, rc8.gd p < w.heap.size) := ⟨hO.lt.2, fun p hp => (hO.dat p hp).2.2.2⟩
  have HBB : Hid (B ≤ w.heap.size) := hB
  clear hO hrl hB hq hn
  go_enter Tryz.func139, Tryz.ntmps139
  go_wp2_with fail
  refine (HC.out _ HB0.out).mono ?_
  rintro o w1 ⟨g', k', gd, kd, rfl, q1, q2, q3, q4, q5⟩
  have hz0 := HR0.out.lt
  have HR1 : Hid (blk w1 (w.heap.size + 1) Z10 35) := HR0.out.kept (q2 _ (by have := HG4.out.1; omega) hz0)
  have HQ1 : Hid (ownG rc8 w1 B 46 8 g' k' (rs ++ [(⟨x, y, z, false, 0, false, 0, []⟩, gd, kd)])) := q1
  have HQ2 : Hid ((∀ q, q ≠ g4 → q < w.heap.size → w1.heap[q]? = w.heap[q]?) ∧ (g' = g4 ∨ w.heap.size + 1 < g') ∧ w.heap.size + 1 < gd ∧ Below B w w1) := ⟨fun q h1 h2 => (q2 q h1 (Nat.lt_of_lt_of_le h2 HB0.out.size)).trans (HB0.out.block q h2), (by rcases q3 with e | e; (exact Or.inl e); (right; omega)), by omega, (HB0.out.mono HBB.out).trans q5⟩
  clear q1 q2 q3 q4 q5 hz0 HR0 HB0 HC
  go_wp2_with (first
    | (refine wpList_store_mid (P := Tryz.prog) rfl 35 _ _ rfl (w.heap.size + 1) 0 [.int .i64 c0, .int .i64 c1, .int .i64 c2, .int .i64 c3, .slice a1 n1 k1, .slice a2 n2 k2, .slice a3 n3 k3, .slice (some ⟨g', 0, none⟩) (n4 + 1) k', .int .i64 lo, .int .i64 st].toArray rfl rfl (HR1.out.there 0 10 (by simp [Z10])) sz41 (all_oneCell_toArray (by simp [Value.oneCell'])) ?_; generalize hW8 : World.setCells _ (w.heap.size + 1) 0 _ = w8; have HW8 : Hid (World.setCells w1 (w.heap.size + 1) 0 [.int .i64 c0, .int .i64 c1, .int .i64 c2, .int .i64 c3, .slice a1 n1 k1, .slice a2 n2 k2, .slice a3 n3 k3, .slice (some ⟨g', 0, none⟩) (n4 + 1) k', .int .i64 lo, .int .i64 st] = w8) := hW8; clear hW8))
  have e8 := HW8.out
  have hF : blk w8 (w.heap.size + 1) [.int .i64 c0, .int .i64 c1, .int .i64 c2, .int .i64 c3, .slice a1 n1 k1, .slice a2 n2 k2, .slice a3 n3 k3, .slice (some ⟨g', 0, none⟩) (n4 + 1) k', .int .i64 lo, .int .i64 st] 35 := by
    rw [← e8]
    have := blk.put [] Z10 [] [.int .i64 c0, .int .i64 c1, .int .i64 c2, .int .i64 c3, .slice a1 n1 k1, .slice a2 n2 k2, .slice a3 n3 k3, .slice (some ⟨g', 0, none⟩) (n4 + 1) k', .int .i64 lo, .int .i64 st] (w := w1) (b := w.heap.size + 1) (T := 35) (by simpa using HR1.out) rfl
    simpa using this
  have hL := run_loadVar_mid (P := Tryz.prog) w8 (w.heap.size + 1) 0 35 _ _ hF.load Tryz.underlying35 rfl sz41
  refine bodyPost_ret (v := .agg [.int .i64 c0, .int .i64 c1, .int .i64 c2, .int .i64 c3, .slice a1 n1 k1, .slice a2 n2 k2, .slice a3 n3 k3, .slice (some ⟨g', 0, none⟩) (n4 + 1) k', .int .i64 lo, .int .i64 st].toArray) (results_cell Tryz.results139 _ w8 (w.heap.size + 1) _ rfl hL) rfl ?_
  have o8 : ∀ q, q ≠ w.heap.size + 1 → w8.heap[q]? = w1.heap[q]? := fun q hq => by rw [← e8]; exact setCells_other _ q hq _ _ _
  have z8 : w8.heap.size = w1.heap.size := by rw [← e8]; exact setCells_size ..
  have hg4 := HG4.out
  have hq2 := HQ2.out
  refine ⟨g', k', gd, kd, rfl, HQ1.out.other o8 ?_ (fun p hp => ?_) (by rw [z8]; exact Nat.le_refl _), fun q h1 h2 => (o8 q (by omega)).trans (hq2.1 q h1 h2), ?_, by omega, ?_⟩
  · rcases hq2.2.1 with e | e <;> omega
  · rcases List.mem_append.1 hp with h | h
    · have := hg4.2 p h
      omega
    · rw [List.mem_singleton.1 h]
      show gd ≠ _
      omega
  · rcases hq2.2.1 with e | e
    · exact Or.inl e
    · right; omega
  · rw [← e8]
    exact setCells_below (by have := HBB.out; omega) 0 _ hq2.2.2.2
end Go.Proofs.YtaamahohdnbpiaaGreat
namespace Go.Proofs.YtaamahohdnbpiaaGreat
open Go.RowKit
set_option linter.unusedVariables false
set_option maxHeartbeats 4000000 in
set_option maxRecDepth 20000 in
/-- spec.l3say of a full queue -/
theorem l3say_full (w : World) (c0 c1 c2 c3 lo st : Int) (a1 : Option Addr) (n1 k1 : Nat) (a2 : Option Addr) (n2 k2 : Nat) (a3 : Option Addr) (n3 k3 : Nat) (a4 : Option Addr) (n4 k4 : Nat) (x y z : Int) (hq : c3 ≤ (n4 : Int)) (hlo : 0 ≤ lo ∧ lo ≤ 100000) (lo2 : Int) (h2 : lo2 = if lo < 100000 then lo + 1 else lo) :
    Calls Tryz.prog 139 #[.agg [.int .i64 c0, .int .i64 c1, .int .i64 c2, .int .i64 c3, .slice a1 n1 k1, .slice a2 n2 k2, .slice a3 n3 k3, .slice a4 n4 k4, .int .i64 lo, .int .i64 st].toArray, .int .i64 x, .int .i64 y, .int .i64 z] w fun o w' => o = .returned (.agg [.int .i64 c0, .int .i64 c1, .int .i64 c2, .int .i64 c3, .slice a1 n1 k1, .slice a2 n2 k2, .slice a3 n3 k3, .slice a4 n4 k4, .int .i64 lo2, .int .i64 st].toArray) ∧ Below w.heap.size w w' := by
  have HB0 : Hid (Below w.heap.size w ((w.alloc (.cells [.int .i64 c0, .int .i64 c1, .int .i64 c2, .int .i64 c3, .slice a1 n1 k1, .slice a2 n2 k2, .slice a3 n3 k3, .slice a4 n4 k4, .int .i64 lo, .int .i64 st].toArray 35)).alloc (.cells [.int .i64 0, .int .i64 0, .int .i64 0, .int .i64 0, .slice none 0 0, .slice none 0 0, .slice none 0 0, .slice none 0 0, .int .i64 0, .int .i64 0].toArray 35))) := ((Below.refl _ _).alloc (Nat.le_refl _) _).alloc (by simp) _
  have HR0 : Hid (blk ((w.alloc (.cells [.int .i64 c0, .int .i64 c1, .int .i64 c2, .int .i64 c3, .slice a1 n1 k1, .slice a2 n2 k2, .slice a3 n3 k3, .slice a4 n4 k4, .int .i64 lo, .int .i64 st].toArray 35)).alloc (.cells [.int .i64 0, .int .i64 0, .int .i64 0, .int .i64 0, .slice none 0 0, .slice none 0 0, .slice none 0 0, .slice none 0 0, .int .i64 0, .int .i64 0].toArray 35)) (w.heap.size + 1) Z10 35) := by
    have := blk.new (w.alloc (.cells [.int .i64 c0, .int .i64 c1, .int .i64 c2, .int .i64 c3, .slice a1 n1 k1, .slice a2 n2 k2, .slice a3 n3 k3, .slice a4 n4 k4, .int .i64 lo, .int .i64 st].toArray 35)) Z10 35
    have e : (w.alloc (.cells [.int .i64 c0, .int .i64 c1, .int .i64 c2, .int .i64 c3, .slice a1 n1 k1, .slice a2 n2 k2, .slice a3 n3 k3, .slice a4 n4 k4, .int .i64 lo, .int .i64 st].toArray 35)).heap.size = w.heap.size + 1 := by simp
    rw [e] at this
    exact this
  have HC : Hid (∀ X : World, Calls Tryz.prog 143 #[.agg [.int .i64 c0, .int .i64 c1, .int .i64 c2, .int .i64 c3, .slice a1 n1 k1, .slice a2 n2 k2, .slice a3 n3 k3, .slice a4 n4 k4, .int .i64 lo, .int .i64 st].toArray, .int .i64 x, .int .i64 y, .int .i64 z, frV false 0 false 0 none 0 0] X fun o w' => o = .returned (.agg [.int .i64 c0, .int .i64 c1, .int .i64 c2, .int .i64 c3, .slice a1 n1 k1, .slice a2 n2 k2, .slice a3 n3 k3, .slice a4 n4 k4, .int .i64 lo2, .int .i64 st].toArray) ∧ Below X.heap.size X w') := fun X => by
    have := l3post_full X c0 c1 c2 c3 lo st a1 n1 k1 a2 n2 k2 a3 n3 k3 a4 n4 k4 x y z false 0 false 0 none 0 0 hq hlo
    rw [← h2] at this
    exact this
  clear hq hlo h2
  go_enter Tryz.func139, Tryz.ntmps139
  go_wp2_with fail
  refine (HC.out _).mono ?_
  rintro o w1 ⟨rfl, b1⟩
  have HR1 : Hid (blk w1 (w.heap.size + 1) Z10 35) := HR0.out.below b1
  have HB1 : Hid (Below w.heap.size w w1) := HB0.out.trans (b1.mono HB0.out.size)
  clear b1 HR0 HB0 HC
  go_wp2_with (first
    | (refine wpList_store_mid (P := Tryz.prog) rfl 35 _ _ rfl (w.heap.size + 1) 0 [.int .i64 c0, .int .i64 c1, .int .i64 c2, .int .i64 c3, .slice a1 n1 k1, .slice a2 n2 k2, .slice a3 n3 k3, .slice a4 n4 k4, .int .i64 lo2, .int .i64 st].toArray rfl rfl (HR1.out.there 0 10 (by simp [Z10])) sz41 (all_oneCell_toArray (by simp [Value.oneCell'])) ?_; generalize hW8 : World.setCells _ (w.heap.size + 1) 0 _ = w8; have HW8 : Hid (World.setCells w1 (w.heap.size + 1) 0 [.int .i64 c0, .int .i64 c1, .int .i64 c2, .int .i64 c3, .slice a1 n1 k1, .slice a2 n2 k2, .slice a3 n3 k3, .slice a4 n4 k4, .int .i64 lo2, .int .i64 st] = w8) := hW8; clear hW8))
  have e8 := HW8.out
  have hF : blk w8 (w.heap.size + 1) [.int .i64 c0, .int .i64 c1, .int .i64 c2, .int .i64 c3, .slice a1 n1 k1, .slice a2 n2 k2, .slice a3 n3 k3, .slice a4 n4 k4, .int .i64 lo2, .int .i64 st] 35 := by
    rw [← e8]
    have := blk.put [] Z10 [] [.int .i64 c0, .int .i64 c1, .int .i64 c2, .int .i64 c3, .slice a1 n1 k1, .slice a2 n2 k2, .slice a3 n3 k3, .slice a4 n4 k4, .int .i64 lo2, .int .i64 st] (w := w1) (b := w.heap.size + 1) (T := 35) (by simpa using HR1.out) rfl
    simpa using this
  have hL := run_loadVar_mid (P := Tryz.prog) w8 (w.heap.size + 1) 0 35 _ _ hF.load Tryz.underlying35 rfl sz41
  refine bodyPost_ret (v := .agg [.int .i64 c0, .int .i64 c1, .int .i64 c2, .int .i64 c3, .slice a1 n1 k1, .slice a2 n2 k2, .slice a3 n3 k3, .slice a4 n4 k4, .int .i64 lo2, .int .i64 st].toArray) (results_cell Tryz.results139 _ w8 (w.heap.size + 1) _ rfl hL) rfl ?_
  refine ⟨rfl, ?_⟩
  rw [← e8]
  exact setCells_below (by omega) 0 _ HB1.out
end Go.Proofs.YtaamahohdnbpiaaGreat
namespace Go.Proofs.YtaamahohdnbpiaaGreat
open Go.RowKit
set_option linter.unusedVariables false
theorem run_makeMapN (n : Nat) (W : World) : (Instr.makeMap 128 (some (.int .i64 (n : Int)))).run Tryz.prog W = .ok (.map (some W.heap.size)) (W.alloc (.map #[] 0)) := by
  simp [Instr.makeMap, go_sem]
set_option maxHeartbeats 8000000 in
set_option maxRecDepth 20000 in
/-- impl.openHost -/
theorem openHost_any (H : Type) (w : World) (c0 c2 : Int) (r1 r3 : Nat) (fs : List R3) (bx : List R8) (ff : List R5) (qu : List R8) (lo st : Int) (g1 n1 k1 g2 o2 n2 k2 : Nat) (a3 : Option Addr) (n3 k3 : Nat) (a4 : Option Addr) (n4 k4 : Nat) (h1 : isR3s w (some ⟨g1, 0, none⟩) n1 k1 fs) (h2 : isR8s w (some ⟨g2, o2, none⟩) n2 k2 bx) (h3 : isR5s w a3 n3 k3 ff) (h4 : isR8s w a4 n4 k4 qu) (m1 : n1 ≤ 1048576) (m2 : n2 ≤ 8) (hc1 : 1 ≤ r1 ∧ r1 ≤ 1000 ∧ n3 ≤ r1) (hc3 : 1 ≤ r3 ∧ r3 ≤ 1000 ∧ n4 ≤ r3) (hok : okBxs st bx) (hsm : ∀ j (h : j < bx.length), bx[j].l.length ≤ 1048576) :
    Calls Tryz.prog 61 #[.agg #[.int .i64 c0, .int .i64 (r1 : Int), .int .i64 c2, .int .i64 (r3 : Int), .slice (some ⟨g1, 0, none⟩) n1 k1, .slice (some ⟨g2, o2, none⟩) n2 k2, .slice a3 n3 k3, .slice a4 n4 k4, .int .i64 lo, .int .i64 st]] w fun o w' => ∃ P mb gf kf gb kb hs gr gq, o = .returned (.pointer (some ⟨P, 0, none⟩)) ∧ lvS H w P mb [.int .i64 c0, .int .i64 (r1 : Int), .int .i64 c2, .int .i64 (r3 : Int), .slice (some ⟨gf, 0, none⟩) n1 kf, .slice (some ⟨gb, 0, none⟩) n2 kb, .map (some mb), .slice (some ⟨gr, 0, none⟩) r1 r1, .int .i64 0, .int .i64 (n3 : Int), .slice (some ⟨gq, 0, none⟩) r3 r3, .int .i64 0, .int .i64 (n4 : Int), .int .i64 lo, .int .i64 st] gf n1 kf fs gb n2 kb bx hs gr r1 ff gq r3 qu n2 w' := by
  have HSU : Hid (∀ (w1 : World) (P mb : Nat) (hb0 : Below w.heap.size w w1) (hP : blk w1 P [.int .i64 0, .int .i64 0, .int .i64 0, .int .i64 0, .slice none 0 0, .slice none 0 0, .map (some mb), .slice none 0 0, .int .i64 0, .int .i64 0, .slice none 0 0, .int .i64 0, .int .i64 0, .int .i64 0, .int .i64 0] 134) (hm : w1.heap[mb]? = some (.map #[] 0)) (hP0 : w.heap.size ≤ P) (hmb0 : w.heap.size ≤ mb) (hne : mb ≠ P), Calls Tryz.prog 129 #[.pointer (some ⟨P, 0, none⟩), .agg #[.int .i64 c0, .int .i64 (r1 : Int), .int .i64 c2, .int .i64 (r3 : Int), .slice (some ⟨g1, 0, none⟩) n1 k1, .slice (some ⟨g2, o2, none⟩) n2 k2, .slice a3 n3 k3, .slice a4 n4 k4, .int .i64 lo, .int .i64 st]] w1 fun o w' => ∃ gf kf gb kb hs gr gq, o = .returned (.tuple #[]) ∧ lvS H w P mb [.int .i64 c0, .int .i64 (r1 : Int), .int .i64 c2, .int .i64 (r3 : Int), .slice (some ⟨gf, 0, none⟩) n1 kf, .slice (some ⟨gb, 0, none⟩) n2 kb, .map (some mb), .slice (some ⟨gr, 0, none⟩) r1 r1, .int .i64 0, .int .i64 (n3 : Int), .slice (some ⟨gq, 0, none⟩) r3 r3, .int .i64 0, .int .i64 (n4 : Int), .int .i64 lo, .int .i64 st] gf n1 kf fs gb n2 kb bx hs gr r1 ff gq r3 qu n2 w') := fun w1 P mb hb0 hP hm hP0 hmb0 hne => setUp_any H w w1 P mb c0 c2 r1 r3 fs bx ff qu lo st g1 n1 k1 g2 o2 n2 k2 a3 n3 k3 a4 n4 k4 h1 h2 h3 h4 m1 m2 hc1 hc3 hok hsm hmb0 hb0 hP hm hP0 hne
  have HPH : Hid (blk (w.alloc (.cells #[.int .i64 c0, .int .i64 (r1 : Int), .int .i64 c2, .int .i64 (r3 : Int), .slice (some ⟨g1, 0, none⟩) n1 k1, .slice (some ⟨g2, o2, none⟩) n2 k2, .slice a3 n3 k3, .slice a4 n4 k4, .int .i64 lo, .int .i64 st] 35)) w.heap.size [.int .i64 c0, .int .i64 (r1 : Int), .int .i64 c2, .int .i64 (r3 : Int), .slice (some ⟨g1, 0, none⟩) n1 k1, .slice (some ⟨g2, o2, none⟩) n2 k2, .slice a3 n3 k3, .slice a4 n4 k4, .int .i64 lo, .int .i64 st] 35 ∧ Below w.heap.size w (w.alloc (.cells #[.int .i64 c0, .int .i64 (r1 : Int), .int .i64 c2, .int .i64 (r3 : Int), .slice (some ⟨g1, 0, none⟩) n1 k1, .slice (some ⟨g2, o2, none⟩) n2 k2, .slice a3 n3 k3, .slice a4 n4 k4, .int .i64 lo, .int .i64 st] 35))) := ⟨blk.new w _ 35, (Below.refl _ _).alloc (Nat.le_refl _) _⟩
  have y5 := HPH.out.1.cell 5 _ rfl
  clear h1 h2 h3 h4 m1 hc1 hc3 hok hsm
  have HM2 : Hid (((w.alloc (.cells #[.int .i64 c0, .int .i64 (r1 : Int), .int .i64 c2, .int .i64 (r3 : Int), .slice (some ⟨g1, 0, none⟩) n1 k1, .slice (some ⟨g2, o2, none⟩) n2 k2, .slice a3 n3 k3, .slice a4 n4 k4, .int .i64 lo, .int .i64 st] 35)).alloc (.map #[] 0)).heap[w.heap.size + 1]? = some (.map #[] 0)) := by
    have := heap_alloc_new (w.alloc (.cells #[.int .i64 c0, .int .i64 (r1 : Int), .int .i64 c2, .int .i64 (r3 : Int), .slice (some ⟨g1, 0, none⟩) n1 k1, .slice (some ⟨g2, o2, none⟩) n2 k2, .slice a3 n3 k3, .slice a4 n4 k4, .int .i64 lo, .int .i64 st] 35)) (.map #[] 0)
    have e : (w.alloc (.cells #[.int .i64 c0, .int .i64 (r1 : Int), .int .i64 c2, .int .i64 (r3 : Int), .slice (some ⟨g1, 0, none⟩) n1 k1, .slice (some ⟨g2, o2, none⟩) n2 k2, .slice a3 n3 k3, .slice a4 n4 k4, .int .i64 lo, .int .i64 st] 35)).heap.size = w.heap.size + 1 := by simp
    rw [e] at this
    exact this
  have HM3 : Hid ((((w.alloc (.cells #[.int .i64 c0, .int .i64 (r1 : Int), .int .i64 c2, .int .i64 (r3 : Int), .slice (some ⟨g1, 0, none⟩) n1 k1, .slice (some ⟨g2, o2, none⟩) n2 k2, .slice a3 n3 k3, .slice a4 n4 k4, .int .i64 lo, .int .i64 st] 35)).alloc (.map #[] 0)).alloc (.cells #[.int .i64 0, .int .i64 0, .int .i64 0, .int .i64 0, .slice none 0 0, .slice none 0 0, .map (some (w.heap.size + 1)), .slice none 0 0, .int .i64 0, .int .i64 0, .slice none 0 0, .int .i64 0, .int .i64 0, .int .i64 0, .int .i64 0] 134)).heap[w.heap.size + 1]? = some (.map #[] 0)) := (Below.heap_alloc _ _ _ (lt_of_some HM2.out)).trans HM2.out
  have HP3 : Hid (blk (((w.alloc (.cells #[.int .i64 c0, .int .i64 (r1 : Int), .int .i64 c2, .int .i64 (r3 : Int), .slice (some ⟨g1, 0, none⟩) n1 k1, .slice (some ⟨g2, o2, none⟩) n2 k2, .slice a3 n3 k3, .slice a4 n4 k4, .int .i64 lo, .int .i64 st] 35)).alloc (.map #[] 0)).alloc (.cells #[.int .i64 0, .int .i64 0, .int .i64 0, .int .i64 0, .slice none 0 0, .slice none 0 0, .map (some (w.heap.size + 1)), .slice none 0 0, .int .i64 0, .int .i64 0, .slice none 0 0, .int .i64 0, .int .i64 0, .int .i64 0, .int .i64 0] 134)) (w.heap.size + 1 + 1) [.int .i64 0, .int .i64 0, .int .i64 0, .int .i64 0, .slice none 0 0, .slice none 0 0, .map (some (w.heap.size + 1)), .slice none 0 0, .int .i64 0, .int .i64 0, .slice none 0 0, .int .i64 0, .int .i64 0, .int .i64 0, .int .i64 0] 134) := by
    have := blk.new ((w.alloc (.cells #[.int .i64 c0, .int .i64 (r1 : Int), .int .i64 c2, .int .i64 (r3 : Int), .slice (some ⟨g1, 0, none⟩) n1 k1, .slice (some ⟨g2, o2, none⟩) n2 k2, .slice a3 n3 k3, .slice a4 n4 k4, .int .i64 lo, .int .i64 st] 35)).alloc (.map #[] 0)) [.int .i64 0, .int .i64 0, .int .i64 0, .int .i64 0, .slice none 0 0, .slice none 0 0, .map (some (w.heap.size + 1)), .slice none 0 0, .int .i64 0, .int .i64 0, .slice none 0 0, .int .i64 0, .int .i64 0, .int .i64 0, .int .i64 0] 134
    have e : ((w.alloc (.cells #[.int .i64 c0, .int .i64 (r1 : Int), .int .i64 c2, .int .i64 (r3 : Int), .slice (some ⟨g1, 0, none⟩) n1 k1, .slice (some ⟨g2, o2, none⟩) n2 k2, .slice a3 n3 k3, .slice a4 n4 k4, .int .i64 lo, .int .i64 st] 35)).alloc (.map #[] 0)).heap.size = w.heap.size + 1 + 1 := by simp
    rw [e] at this
    exact this
  have HB3 : Hid (Below w.heap.size w (((w.alloc (.cells #[.int .i64 c0, .int .i64 (r1 : Int), .int .i64 c2, .int .i64 (r3 : Int), .slice (some ⟨g1, 0, none⟩) n1 k1, .slice (some ⟨g2, o2, none⟩) n2 k2, .slice a3 n3 k3, .slice a4 n4 k4, .int .i64 lo, .int .i64 st] 35)).alloc (.map #[] 0)).alloc (.cells #[.int .i64 0, .int .i64 0, .int .i64 0, .int .i64 0, .slice none 0 0, .slice none 0 0, .map (some (w.heap.size + 1)), .slice none 0 0, .int .i64 0, .int .i64 0, .slice none 0 0, .int .i64 0, .int .i64 0, .int .i64 0, .int .i64 0] 134))) := ((HPH.out.2.alloc (by simp) _).alloc (by simp; omega) _)
  have hmm : ∀ W : World, (Instr.makeMap 128 (some (.int .i64 (n2 : Int)))).run Tryz.prog W = .ok (.map (some W.heap.size)) (W.alloc (.map #[] 0)) := fun W => run_makeMapN n2 W
  go_enter Tryz.func61, Tryz.ntmps61
  go_wp2_with fail
  refine (HSU.out _ (w.heap.size + 1 + 1) (w.heap.size + 1) HB3.out HP3.out HM3.out (by omega) (by omega) (by omega)).mono ?_
  rintro o w9 ⟨gf, kf, gb, kb, hs, gr, gq, rfl, hlv⟩
  have HLV : Hid _ := hlv
  clear hlv hmm y5 HSU HPH HM2 HM3 HP3 HB3
  go_wp2
  go_ret
  exact ⟨_, _, gf, kf, gb, kb, hs, gr, gq, rfl, HLV.out⟩
end Go.Proofs.YtaamahohdnbpiaaGreat
namespace Go.Proofs.YtaamahohdnbpiaaGreat
open Go.RowKit
set_option linter.unusedVariables false
theorem at8.frame {w : World} {g o : Nat} {b : R8} {ao : Option Addr} {m c : Nat} (h : at8 w g o b ao m c) : w.rangeAt g (o + 3) [.bool b.e, .int .u32 (b.i : Int), .bool b.r, .int .i64 b.d, .slice ao m c] := by
  intro j v hv
  match j, hv with
  | 0, hv => cases hv; exact h.c3
  | 1, hv => cases hv; exact h.c4
  | 2, hv => cases hv; exact h.c5
  | 3, hv => cases hv; exact h.c6
  | 4, hv => cases hv; exact h.cs
end Go.Proofs.YtaamahohdnbpiaaGreat
namespace Go.Proofs.YtaamahohdnbpiaaGreat
open Go.RowKit
set_option linter.unusedVariables false
/-- what goesAhead keeps -/
structure gaS (w : World) (L1 L2 : List Value) (W : World) : Prop where
  p : blk W w.heap.size L1 97
  q : blk W (w.heap.size + 1) L2 97
  b : Below w.heap.size w W
theorem gaS.below {w : World} {L1 L2 : List Value} {W W' : World} (h : gaS w L1 L2 W) (hb : Below W.heap.size W W') : gaS w L1 L2 W' := ⟨h.p.below hb, h.q.below hb, h.b.trans (hb.mono h.b.size)⟩
end Go.Proofs.YtaamahohdnbpiaaGreat
namespace Go.Proofs.YtaamahohdnbpiaaGreat
open Go.RowKit
set_option linter.unusedVariables false
structure beS (w : World) (PB : Nat) (L : List Value) (W : World) : Prop where
  p : blk W PB L 97
  b : Below w.heap.size w W
theorem beS.below {w : World} {PB : Nat} {L : List Value} {W W' : World} (h : beS w PB L W) (hb : Below W.heap.size W W') : beS w PB L W' := ⟨h.p.below hb, h.b.trans (hb.mono h.b.size)⟩
end Go.Proofs.YtaamahohdnbpiaaGreat
namespace Go.Proofs.YtaamahohdnbpiaaGreat
open Go.RowKit
set_option linter.unusedVariables false
/-- filters and boxes lie in rows of their own -/
def slSome (s : Sl) : Prop := (∃ g, s.a1 = some ⟨g, 0, none⟩) ∧ (∃ g, s.a2 = some ⟨g, 0, none⟩)
theorem wrHo.some {B T : Nat} {W : World} {s : Sl} (h : wrHo B T W s) : slSome s := by
  obtain ⟨g1, g2, g3, g4, e, _⟩ := h.e
  rw [e]
  exact ⟨⟨g1, rfl⟩, ⟨g2, rfl⟩⟩
theorem okHo.n2 {H : Ho} (h : okHo H) : H.bx.length ≤ 8 := by
  have h1 := of_decide_eq_true h.cf
  have h2 := h.nb
  omega
end Go.Proofs.YtaamahohdnbpiaaGreat
namespace Go.Proofs.YtaamahohdnbpiaaGreat
open Go.RowKit
set_option linter.unusedVariables false
theorem isBytes.typed {W : World} {a : Option Addr} {n cap : Nat} {l : List Nat} (h : isBytes W a n cap l) (p : Addr) (v v' : Value) (hp : W.cell? p = some v) (hv : ∀ x, v ≠ .int .u8 x) : isBytes (W.setCell p v') a n cap l := by
  refine ⟨h.len, h.cap, h.small, fun hne => ?_⟩
  obtain ⟨g, off, e, hc⟩ := h.cells hne
  refine ⟨g, off, e, fun j hj => ?_⟩
  rw [World.cell?_setCell_other _ _ _ _ (by
    intro e2
    have := hc j hj
    rw [← e2, hp] at this
    injection this with this
    exact hv _ this)]
  exact hc j hj
/-- is on the wire -/
def onW (b : R8) : Prop := b.x = 2 ∨ b.x = 3
/-- the first box on the wire -/
def bsy (bx : List R8) (r : Int) : Prop := (∃ (k : Nat) (h : k < bx.length), onW bx[k] ∧ (∀ j (hj : j < bx.length), j < k → ¬ onW bx[j]) ∧ r = (k : Int)) ∨ ((∀ k (h : k < bx.length), ¬ onW bx[k]) ∧ r = -1)
set_option maxHeartbeats 4000000 in
set_option maxRecDepth 20000 in
/-- spec.l3busy -/
theorem l3busy_any (w : World) (H : Ho) (s : Sl) (h : isR8s w s.a2 s.n2 s.k2 H.bx) (hn : s.n2 ≤ 1000) :
    Calls Tryz.prog 142 #[.agg (hoL H s).toArray] w fun o w' => ∃ r : Int, o = .returned (.int .i64 r) ∧ bsy H.bx r ∧ Below w.heap.size w w' := by
  have H0 : Hid (obS w H s (w.alloc (.cells (hoL H s).toArray 35))) := ⟨blk.new w _ 35, (Below.refl _ _).alloc (Nat.le_refl _) _⟩
  have hcp := h.cap
  obtain ⟨c0, c1, c2, c3, fs, bx, ff, qu, lo, st⟩ := H
  obtain ⟨a1, n1, k1, a2, n2, k2, a3, n3, k3, a4, n4, k4⟩ := s
  simp only [] at h hcp hn ⊢
  have HL : Hid (n2 = bx.length) := h.len
  by_cases hl : bx = []
  · subst hl
    have hn0 : n2 = 0 := HL.out
    subst hn0
    clear h
    go_enter Tryz.func142, Tryz.ntmps142
    go_wp2_with fail
    go_loopw [3] (fun i wr => i = .int .i64 0 ∧ obS w ⟨c0, c1, c2, c3, fs, [], ff, qu, lo, st⟩ ⟨a1, n1, k1, a2, 0, k2, a3, n3, k3, a4, n4, k4⟩ wr) (fun _ _ => 0)
    case atStart => exact ⟨rfl, H0.out⟩
    case round =>
      obtain ⟨rfl, hS⟩ := hrel
      have p5 := hS.p.cell 5 _ rfl
      have HS := hS.b
      go_wp2
      go_ret
      exact ⟨-1, rfl, Or.inr ⟨fun k hk => (by cases hk), rfl⟩, HS⟩
  obtain ⟨g, off, rfl, hc⟩ := h.cells hl
  have HC : Hid (∀ j (h : j < bx.length), ∃ ao m c, at8 w g (off + j * 8) bx[j] ao m c) := hc
  clear hc h hl
  go_enter Tryz.func142, Tryz.ntmps142
  go_wp2_with fail
  go_loopw [3] (fun i wr => ∃ k : Nat, k ≤ n2 ∧ i = .int .i64 (k : Int) ∧ (∀ j (hj : j < bx.length), j < k → ¬ onW bx[j]) ∧ obS w ⟨c0, c1, c2, c3, fs, bx, ff, qu, lo, st⟩ ⟨a1, n1, k1, some ⟨g, off, none⟩, n2, k2, a3, n3, k3, a4, n4, k4⟩ wr) (fun i _ => n2 - (intOf i).toNat)
  case atStart => exact ⟨0, Nat.zero_le _, rfl, fun j _ h => absurd h (Nat.not_lt_zero _), H0.out⟩
  case round =>
    obtain ⟨k, hk, rfl, hA, hS⟩ := hrel
    have HA : Hid (∀ j (hj : j < bx.length), j < k → ¬ onW bx[j]) := hA
    have HS : Hid (obS w ⟨c0, c1, c2, c3, fs, bx, ff, qu, lo, st⟩ ⟨a1, n1, k1, some ⟨g, off, none⟩, n2, k2, a3, n3, k3, a4, n4, k4⟩ wr) := hS
    have x5 := hS.p.cell 5 _ rfl
    clear hA hS
    by_cases hlt : k < n2
    · have hkl : k < bx.length := by have := HL.out; omega
      obtain ⟨ao, m, c, hx⟩ := HC.out k hkl
      have u0 := (hx.below HS.out.b).c0
      clear hx
      have HX : Hid (bx[k].x = bx[k].x) := rfl
      have HON : Hid (onW bx[k] ↔ (bx[k].x = 2 ∨ bx[k].x = 3)) := Iff.rfl
      generalize bx[k].x = x at *
      by_cases h2 : x = 2
      · subst h2
        go_wp2_with fail
        go_ret
        exact ⟨k, rfl, Or.inl ⟨k, hkl, HON.out.2 (by simp), HA.out, rfl⟩, HS.out.b⟩
      · have h2' : (x == 2) = false := by simpa using h2
        by_cases h3 : x = 3
        · subst h3
          go_wp2_with fail
          go_ret
          exact ⟨k, rfl, Or.inl ⟨k, hkl, HON.out.2 (by simp), HA.out, rfl⟩, HS.out.b⟩
        · have h3' : (x == 3) = false := by simpa using h3
          have HNO : Hid (¬ onW bx[k]) := fun e => by rcases HON.out.1 e with e | e <;> contradiction
          clear h2 h3
          go_wp2_with fail
          go_roundw
          case rel =>
            refine ⟨k + 1, by omega, by go_num, fun j hj hjk => ?_, HS.out⟩
            by_cases e : j = k
            · subst e; exact HNO.out
            · exact HA.out j hj (by omega)
          case measure => simp [intOf]; omega
    · have hkn : n2 = k := by omega
      subst hkn
      go_wp2_with fail
      go_ret
      exact ⟨-1, rfl, Or.inr ⟨fun j hj => HA.out j hj (by have := HL.out; omega), rfl⟩, HS.out.b⟩
end Go.Proofs.YtaamahohdnbpiaaGreat
namespace Go.Proofs.YtaamahohdnbpiaaGreat
open Go.RowKit
set_option linter.unusedVariables false
/-- the boxes behind Take -/
def takeB (bx : List R8) (i : Int) : List R8 := if h : 0 ≤ i ∧ i < (bx.length : Int) then (if (bx[i.toNat]'(by omega)).x = 1 ∧ (∀ b ∈ bx, ¬ (b.x = 2 ∨ b.x = 3)) then bx.set i.toNat { (bx[i.toNat]'(by omega)) with x := 2 } else bx) else bx
def takeHo (H : Ho) (i : Int) : Ho := { H with bx := takeB H.bx i }
/-- the state of one box is written -/
theorem isR8s.setX {W : World} {g n cap : Nat} {bx : List R8} (h : isR8s W (some ⟨g, 0, none⟩) n cap bx) (k : Nat) (hk : k < bx.length) (v : Int) : isR8s (W.setCell ⟨g, k * 8, none⟩ (.int .i64 v)) (some ⟨g, 0, none⟩) n cap (bx.set k { bx[k] with x := v }) := by
  have hc : ∀ j (h : j < bx.length), ∃ ao m c, at8 W g (j * 8) bx[j] ao m c := by
    obtain ⟨g', off, e, hc⟩ := h.cells (by intro e; subst e; cases hk)
    cases e
    intro j hj
    have := hc j hj
    rw [Nat.zero_add] at this
    exact this
  obtain ⟨_, _, _, hk0⟩ := hc k hk
  refine ⟨by simpa using h.len, h.cap, fun _ => ⟨g, 0, rfl, fun j hj => ?_⟩⟩
  have hj' : j < bx.length := by simpa using hj
  obtain ⟨ao, m, c, q⟩ := hc j hj'
  refine ⟨ao, m, c, ?_⟩
  rw [Nat.zero_add]
  have ot : ∀ t, j * 8 + t ≠ k * 8 → (W.setCell ⟨g, k * 8, none⟩ (.int .i64 v)).cell? ⟨g, j * 8 + t, none⟩ = W.cell? ⟨g, j * 8 + t, none⟩ := fun t ht => World.cell?_setCell_other _ _ _ _ (by intro e; simp at e <;> omega)
  have od := q.dat.typed ⟨g, k * 8, none⟩ _ (.int .i64 v) hk0.c0 (by intro x e; cases e)
  by_cases e : j = k
  · subst e
    simp only [List.getElem_set_self]
    exact ⟨World.cell?_setCell_same _ _ _ hk0.c0, (ot 1 (by omega)).trans q.c1, (ot 2 (by omega)).trans q.c2, (ot 3 (by omega)).trans q.c3, (ot 4 (by omega)).trans q.c4, (ot 5 (by omega)).trans q.c5, (ot 6 (by omega)).trans q.c6, (ot 7 (by omega)).trans q.cs, od⟩
  · rw [List.getElem_set_ne (by omega)]
    exact ⟨(ot 0 (by omega)).trans q.c0, (ot 1 (by omega)).trans q.c1, (ot 2 (by omega)).trans q.c2, (ot 3 (by omega)).trans q.c3, (ot 4 (by omega)).trans q.c4, (ot 5 (by omega)).trans q.c5, (ot 6 (by omega)).trans q.c6, (ot 7 (by omega)).trans q.cs, od⟩
theorem isR8s.setAt {W : World} {a : Option Addr} {n cap : Nat} {bx : List R8} (h : isR8s W a n cap bx) (p : Addr) (x v : Int) (hp : W.cell? p = some (.int .i64 x)) (hb : ∀ g off, a = some ⟨g, off, none⟩ → g ≠ p.block) : isR8s (W.setCell p (.int .i64 v)) a n cap bx := by
  refine ⟨h.len, h.cap, fun hne => ?_⟩
  obtain ⟨g, off, e, hc⟩ := h.cells hne
  refine ⟨g, off, e, fun j hj => ?_⟩
  obtain ⟨ao, m, c, q⟩ := hc j hj
  have hg := heap_setCell_other W p g (.int .i64 v) (hb g off e)
  exact ⟨ao, m, c, cell_up q.c0 hg, cell_up q.c1 hg, cell_up q.c2 hg, cell_up q.c3 hg, cell_up q.c4 hg, cell_up q.c5 hg, cell_up q.c6 hg, cell_up q.cs hg, q.dat.typed p _ _ hp (by intro y e; cases e)⟩
theorem isR5s.setAt {W : World} {a : Option Addr} {n cap : Nat} {bx : List R5} (h : isR5s W a n cap bx) (p : Addr) (x v : Int) (hp : W.cell? p = some (.int .i64 x)) (hb : ∀ g off, a = some ⟨g, off, none⟩ → g ≠ p.block) : isR5s (W.setCell p (.int .i64 v)) a n cap bx := by
  refine ⟨h.len, h.cap, fun hne => ?_⟩
  obtain ⟨g, off, e, hc⟩ := h.cells hne
  refine ⟨g, off, e, fun j hj => ?_⟩
  obtain ⟨ao, m, c, q⟩ := hc j hj
  have hg := heap_setCell_other W p g (.int .i64 v) (hb g off e)
  exact ⟨ao, m, c, cell_up q.c0 hg, cell_up q.c1 hg, cell_up q.c2 hg, cell_up q.c3 hg, cell_up q.cs hg, q.dat.typed p _ _ hp (by intro y e; cases e)⟩
theorem isR3s.setAt {W : World} {a : Option Addr} {n cap : Nat} {bx : List R3} (h : isR3s W a n cap bx) (p : Addr) (x v : Int) (hp : W.cell? p = some (.int .i64 x)) : isR3s (W.setCell p (.int .i64 v)) a n cap bx := by
  refine ⟨h.len, h.cap, fun hne => ?_⟩
  obtain ⟨g, off, e, hc⟩ := h.cells hne
  refine ⟨g, off, e, fun j hj => ?_⟩
  have q := hc j hj
  have ot : ∀ (t : Nat) (u : Value), W.cell? ⟨g, t, none⟩ = some u → (∀ y, u ≠ .int .i64 y) → (W.setCell p (.int .i64 v)).cell? ⟨g, t, none⟩ = some u := fun t u hu hn => by
    rw [World.cell?_setCell_other _ _ _ _ (by intro e2; rw [← e2, hp] at hu; injection hu with hu; exact hn _ hu.symm)]
    exact hu
  exact ⟨ot _ _ q.c0 (by intro y e; cases e), ot _ _ q.c1 (by intro y e; cases e), ot _ _ q.c2 (by intro y e; cases e)⟩
/-- the box k of a host's row is set on the wire -/
theorem isHo.setX {W : World} {H : Ho} {s : Sl} (h : isHo W H s) {g : Nat} (ha : s.a2 = some ⟨g, 0, none⟩) (hne : ∀ x, s.a3 = some ⟨x, 0, none⟩ ∨ s.a4 = some ⟨x, 0, none⟩ → g ≠ x) (ha3 : ∃ x, s.a3 = some ⟨x, 0, none⟩) (ha4 : ∃ x, s.a4 = some ⟨x, 0, none⟩) (k : Nat) (hk : k < H.bx.length) (v : Int) : isHo (W.setCell ⟨g, k * 8, none⟩ (.int .i64 v)) { H with bx := H.bx.set k { H.bx[k] with x := v } } s := by
  have hb := h.bx
  rw [ha] at hb
  obtain ⟨g', off, e, hc⟩ := hb.cells (by intro e; rw [e] at hk; cases hk)
  cases e
  obtain ⟨_, _, _, q⟩ := hc k hk
  have q0 := q.c0
  rw [Nat.zero_add] at q0
  obtain ⟨x3, e3⟩ := ha3
  obtain ⟨x4, e4⟩ := ha4
  refine ⟨h.fs.setAt _ _ _ q0, ?_, h.ff.setAt _ _ _ q0 (fun g2 off e => ?_), h.qu.setAt _ _ _ q0 (fun g2 off e => ?_)⟩
  · rw [ha]
    exact hb.setX k hk v
  · rw [e3] at e; cases e
    exact fun e5 => hne x3 (Or.inl e3) e5.symm
  · rw [e4] at e; cases e
    exact fun e5 => hne x4 (Or.inr e4) e5.symm
end Go.Proofs.YtaamahohdnbpiaaGreat
