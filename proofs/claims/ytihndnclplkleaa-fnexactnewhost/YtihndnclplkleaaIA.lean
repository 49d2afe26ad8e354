import Derived.Test.YtihndnclplkleaaHP
namespace Go.Proofs.Ytihndnclplkleaa
open Go.RowKit
/-- a config in its ranges -/
def okCf (a b c d : Int) : Bool := decide (1 ≤ a ∧ a ≤ 8 ∧ 1 ≤ b ∧ b ≤ 16 ∧ 0 ≤ c ∧ c ≤ 1 ∧ 1 ≤ d ∧ d ≤ 32)
theorem okCf_yes {a b c d : Int} (h : 1 ≤ a ∧ a ≤ 8 ∧ 1 ≤ b ∧ b ≤ 16 ∧ 0 ≤ c ∧ c ≤ 1 ∧ 1 ≤ d ∧ d ≤ 32) : okCf a b c d = true := decide_eq_true h
theorem okCf_no {a b c d : Int} (h : ¬ (1 ≤ a ∧ a ≤ 8 ∧ 1 ≤ b ∧ b ≤ 16 ∧ 0 ≤ c ∧ c ≤ 1 ∧ 1 ≤ d ∧ d ≤ 32)) : okCf a b c d = false := decide_eq_false h
theorem inRange_any (w : World) (v l m : Int) : Calls Try.prog 67 #[.int .i64 v, .int .i64 l, .int .i64 m] w fun o w' => o = .returned (.bool (decide (l ≤ v ∧ v ≤ m))) ∧ w = w' := by
  have HD : Hid (∀ b : Bool, (b = true ↔ (l ≤ v ∧ v ≤ m)) → b = decide (l ≤ v ∧ v ≤ m)) := fun b h => by rw [Bool.eq_iff_iff, h]; simp
  generalize decide (l ≤ v ∧ v ≤ m) = R at *
  go_enter Try.func67, Try.ntmps67
  go_wp2
  all_goals
    go_ret
    refine ⟨ret_bool (HD.out _ ?_), rfl⟩
    simp
    try omega
set_option maxHeartbeats 1000000 in
theorem l3okConfig_any (w : World) (a b c d : Int) : Calls Try.prog 37 #[cfV a b c d] w fun o w' => o = .returned (.bool (okCf a b c d)) ∧ Below w.heap.size w w' := by
  go_enter Try.func37, Try.ntmps37
  go_wp2
  all_goals
    go_ret
    refine ⟨ret_bool ?_, (Below.refl _ _).alloc (Nat.le_refl _) _⟩
    unfold okCf
    rw [Bool.eq_iff_iff]
    simp
    try omega
set_option maxHeartbeats 1000000 in
theorem validConfig_any (w : World) (a b c d : Int) : Calls Try.prog 41 #[cfV a b c d] w fun o w' => o = .returned (.bool (okCf a b c d)) ∧ Below w.heap.size w w' := by
  go_enter Try.func41, Try.ntmps41
  go_wp2_with (first | (go_at_call 67; refine (inRange_any _ _ _ _).mono ?_; rintro o w1 ⟨rfl, rfl⟩))
  all_goals
    go_ret
    refine ⟨ret_bool ?_, (Below.refl _ _).alloc (Nat.le_refl _) _⟩
    unfold okCf
    rw [Bool.eq_iff_iff]
    simp
    try omega
/-- a filter in its ranges -/
def okFl (x : R3) : Bool := decide (x.m < (if x.e = true then 536870912 else 2048)) && decide (x.k < (if x.e = true then 536870912 else 2048))
set_option maxHeartbeats 1000000 in
theorem wrongFilter_any (w : World) (x : R3) : Calls Try.prog 69 #[flV x.e x.m x.k] w fun o w' => o = .returned (.bool (!okFl x)) ∧ Below w.heap.size w w' := by
  obtain ⟨e, m, k⟩ := x
  cases e
  · have HD : Hid (∀ b : Bool, (b = true ↔ ¬ (m < 2048 ∧ k < 2048)) → b = !okFl ⟨false, m, k⟩) := fun b h => by rw [Bool.eq_iff_iff, h]; simp [okFl]; omega
    generalize okFl ⟨false, m, k⟩ = R at *
    go_enter Try.func69, Try.ntmps69
    go_wp2
    all_goals
      go_ret
      refine ⟨ret_bool (HD.out _ ?_), (Below.refl _ _).alloc (Nat.le_refl _) _⟩
      simp
      try omega
  · have HD : Hid (∀ b : Bool, (b = true ↔ ¬ (m < 536870912 ∧ k < 536870912)) → b = !okFl ⟨true, m, k⟩) := fun b h => by rw [Bool.eq_iff_iff, h]; simp [okFl]; omega
    generalize okFl ⟨true, m, k⟩ = R at *
    go_enter Try.func69, Try.ntmps69
    go_wp2
    all_goals
      go_ret
      refine ⟨ret_bool (HD.out _ ?_), (Below.refl _ _).alloc (Nat.le_refl _) _⟩
      simp
      try omega
end Go.Proofs.Ytihndnclplkleaa
