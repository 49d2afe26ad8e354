import Derived.Test.YtnefmdjodjpopaaBE
namespace Go.Proofs.Ytnefmdjodjpopaa
open Go.RowKit

theorem judge_same (s : ByteArray) : judgeV (walkZ s) = sjV (swZ s).1 (swZ s).2.1 (swZ s).2.2 := by
  unfold walkZ swZ
  by_cases hk : okT s 4000 = true
  · rw [if_pos hk, if_pos hk]
    obtain ⟨h1, h2, -⟩ := walk_all (lt s) (lt_isL hk)
    unfold judgeV sjV
    rw [h1]
    by_cases hg : goesOnB (swF (lt s) (lt s).length 0).1 = true
    · obtain ⟨h3, h4, h5⟩ := h2 hg
      rw [if_pos hg, if_pos hg, h3, h4, h5]
    · rw [if_neg hg, if_neg hg]
  · rw [if_neg hk, if_neg hk]
    rfl
theorem eqVerdict_same (c f : Nat) (d o : Bool) (w : World) :
    Calls Try.prog 31 #[.agg #[.int .i64 (c : Int), .int .i64 (f : Int), .bool d, .bool o], .agg #[.int .i64 (c : Int), .int .i64 (f : Int), .bool d, .bool o]] w fun e w' => e = .returned (.bool true) ∧ Below w.heap.size w w' := by
  have h1 : ((c : Int) == (c : Int)) = true := by simp
  have h2 : ((f : Int) == (f : Int)) = true := by simp
  cases d <;> cases o <;>
  (go_enter Try.func31, Try.ntmps31
   go_wp2
   go_ret
   exact ⟨rfl, ((Below.refl _ _).alloc (Nat.le_refl _) _).alloc (by simp) _⟩)
theorem sjV_shape (c : Nat) (p : List Nat) (d : Bool) : ∃ c' f' : Nat, ∃ d' o' : Bool, sjV c p d = .agg #[.int .i64 (c' : Int), .int .i64 (f' : Int), .bool d', .bool o'] := by
  unfold sjV
  split
  · exact ⟨_, _, _, _, rfl⟩
  · exact ⟨_, 0, _, _, rfl⟩
theorem vd_cells {w w2 : World} {c f : Nat} {d o : Bool} (x : Obj) (h : Below (w.alloc (.cells #[.int .i64 (c : Int), .int .i64 (f : Int), .bool d, .bool o] 39)).heap.size (w.alloc (.cells #[.int .i64 (c : Int), .int .i64 (f : Int), .bool d, .bool o] 39)) w2) :
    (w2.alloc x).cell? ⟨w.heap.size, 0, none⟩ = some (.int .i64 (c : Int)) ∧ (w2.alloc x).cell? ⟨w.heap.size, 1, none⟩ = some (.int .i64 (f : Int)) ∧ (w2.alloc x).cell? ⟨w.heap.size, 2, none⟩ = some (.bool d) ∧ (w2.alloc x).cell? ⟨w.heap.size, 3, none⟩ = some (.bool o) := by
  have e : (w2.alloc x).heap[w.heap.size]? = some (.cells #[.int .i64 (c : Int), .int .i64 (f : Int), .bool d, .bool o] 39 (0, 0)) := by
    have hz := h.size
    rw [Below.heap_alloc w2 x _ (Nat.lt_of_lt_of_le (by simp) hz)]
    exact (h.block _ (by simp)).trans (heap_alloc_new w _)
  refine ⟨?_, ?_, ?_, ?_⟩ <;> simp [World.cell?, e]
/-- laws.FnExactJudge -/
theorem lawJudge (s : ByteArray) (w : World) (hs : s.size ≤ maxLen) :
    Calls Try.prog 8 #[.string s] w fun e w' => e = .returned (.bool true) ∧ Below w.heap.size w w' := by
  have hs' := hs
  unfold maxLen at hs'
  by_cases hl : (1048576 : Int) < (s.size : Int)
  · go_enter Try.func8, Try.ntmps8
    go_wp2
    go_ret
    exact ⟨rfl, Below.refl _ _⟩
  · have H1 : Hid (∀ W, Calls Try.prog 29 #[.string s] W fun e w' => e = .returned (sjV (swZ s).1 (swZ s).2.1 (swZ s).2.2) ∧ Below W.heap.size W w') := fun W => specJudge_any s W hs
    have H2 : Hid (∀ W, Calls Try.prog 30 #[.string s] W fun e w' => e = .returned (sjV (swZ s).1 (swZ s).2.1 (swZ s).2.2) ∧ Below W.heap.size W w') := by
      intro W; have := judge_any s W; rw [judge_same] at this; exact this
    obtain ⟨c, f, d, o, he⟩ := sjV_shape (swZ s).1 (swZ s).2.1 (swZ s).2.2
    rw [he] at H1 H2
    clear he
    go_enter Try.func8, Try.ntmps8
    go_wp2_with (first | (go_at_call 29; refine (H1.out _).mono ?_; rintro e w1 ⟨rfl, hb1⟩) | (go_at_call 30; refine (H2.out _).mono ?_; rintro e w2 ⟨rfl, hb2⟩; obtain ⟨k0, k1, k2, k3⟩ := vd_cells (.cells #[.int .i64 (c : Int), .int .i64 (f : Int), .bool d, .bool o] 39) hb2) | (go_at_call 31; refine (eqVerdict_same c f d o _).mono ?_; rintro e w3 ⟨rfl, hb3⟩))
    go_ret
    exact ⟨rfl, ((((hb1.alloc hb1.size _).trans (hb2.mono (Nat.le_trans hb1.size (by simp)))).alloc (by have := hb1.size; have := hb2.size; simp at this; omega) _).trans (hb3.mono (by have := hb1.size; have := hb2.size; simp at this ⊢; omega)))⟩
end Go.Proofs.Ytnefmdjodjpopaa
