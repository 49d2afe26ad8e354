import Derived.Test.YtihndnclplkleaaII
namespace Go.Proofs.Ytihndnclplkleaa
open Go.RowKit
theorem none18 (w : World) (c : Nat) : Calls Try.prog 18 #[.slice none 0 0, .int .i64 (c : Int)] w fun o w' => o = .returned (.int .i64 (c : Int)) ∧ w' = w := by
  go_enter Try.func18, Try.ntmps18
  go_wp2
  go_loopw [1, 5] (fun kk i wr => i = .int .i64 0 ∧ kk = .int .i64 (c : Int) ∧ wr = w) (fun _ _ _ => 0)
  case atStart => exact ⟨rfl, rfl, rfl⟩
  case round =>
    obtain ⟨rfl, rfl, rfl⟩ := hrel
    go_wp2
    go_ret
    exact ⟨rfl, rfl⟩
theorem none49 (w : World) (c : Nat) : Calls Try.prog 49 #[.slice none 0 0, .int .i64 (c : Int)] w fun o w' => o = .returned (.int .i64 (c : Int)) ∧ w' = w := by
  go_enter Try.func49, Try.ntmps49
  go_wp2
  go_loopw [1, 5] (fun kk i wr => i = .int .i64 0 ∧ kk = .int .i64 (c : Int) ∧ wr = w) (fun _ _ _ => 0)
  case atStart => exact ⟨rfl, rfl, rfl⟩
  case round =>
    obtain ⟨rfl, rfl, rfl⟩ := hrel
    go_wp2
    go_ret
    exact ⟨rfl, rfl⟩
theorem none52 (w : World) (c : Nat) : Calls Try.prog 52 #[.slice none 0 0, .int .i64 (c : Int)] w fun o w' => o = .returned (.int .i64 (c : Int)) ∧ w' = w := by
  go_enter Try.func52, Try.ntmps52
  go_wp2
  go_loopw [1, 5] (fun kk i wr => i = .int .i64 0 ∧ kk = .int .i64 (c : Int) ∧ wr = w) (fun _ _ _ => 0)
  case atStart => exact ⟨rfl, rfl, rfl⟩
  case round =>
    obtain ⟨rfl, rfl, rfl⟩ := hrel
    go_wp2
    go_ret
    exact ⟨rfl, rfl⟩
theorem none53 (w : World) (c : Nat) : Calls Try.prog 53 #[.slice none 0 0, .int .i64 (c : Int)] w fun o w' => o = .returned (.int .i64 (c : Int)) ∧ w' = w := by
  go_enter Try.func53, Try.ntmps53
  go_wp2
  go_loopw [1, 5] (fun kk i wr => i = .int .i64 0 ∧ kk = .int .i64 (c : Int) ∧ wr = w) (fun _ _ _ => 0)
  case atStart => exact ⟨rfl, rfl, rfl⟩
  case round =>
    obtain ⟨rfl, rfl, rfl⟩ := hrel
    go_wp2
    go_ret
    exact ⟨rfl, rfl⟩
set_option maxHeartbeats 4000000 in
set_option maxRecDepth 20000 in
theorem markHost_nil (w : World) (c0 c1 c2 c3 lo st : Int) (c : Nat) (hc : c ≤ 1000) :
    Calls Try.prog 19 #[.agg #[.int .i64 c0, .int .i64 c1, .int .i64 c2, .int .i64 c3, .slice none 0 0, .slice none 0 0, .slice none 0 0, .slice none 0 0, .int .i64 lo, .int .i64 st], .int .i64 (c : Int)] w fun o w' => o = .returned (.int .i64 (c : Int)) ∧ Below w.heap.size w w' := by
  have z1 : ¬ (c : Int) < 0 := by omega
  go_enter Try.func19, Try.ntmps19
  go_wp2_with (first | (go_at_call 18; refine (none18 _ c).mono ?_; rintro o w1 ⟨rfl, rfl⟩) | (go_at_call 49; refine (none49 _ c).mono ?_; rintro o w2 ⟨rfl, rfl⟩) | (go_at_call 50; refine (none50 _ c).mono ?_; rintro o w3 ⟨rfl, rfl⟩) | (go_at_call 51; refine (none51 _ c).mono ?_; rintro o w4 ⟨rfl, rfl⟩))
  go_ret
  exact ⟨rfl, (Below.refl w.heap.size w).alloc (Nat.le_refl _) _⟩
set_option maxHeartbeats 4000000 in
set_option maxRecDepth 20000 in
theorem heldHost_nil (w : World) (c0 c1 c2 c3 lo st : Int) (c : Nat) (hc : c ≤ 1000) :
    Calls Try.prog 20 #[.agg #[.int .i64 c0, .int .i64 c1, .int .i64 c2, .int .i64 c3, .slice none 0 0, .slice none 0 0, .slice none 0 0, .slice none 0 0, .int .i64 lo, .int .i64 st], .int .i64 (c : Int)] w fun o w' => o = .returned (.int .i64 (c : Int)) ∧ Below w.heap.size w w' := by
  have z1 : ¬ (c : Int) < 0 := by omega
  go_enter Try.func20, Try.ntmps20
  go_wp2_with (first | (go_at_call 52; refine (none52 _ c).mono ?_; rintro o w1 ⟨rfl, rfl⟩) | (go_at_call 53; refine (none53 _ c).mono ?_; rintro o w2 ⟨rfl, rfl⟩) | (go_at_call 54; refine (none54 _ c).mono ?_; rintro o w3 ⟨rfl, rfl⟩) | (go_at_call 55; refine (none55 _ c).mono ?_; rintro o w4 ⟨rfl, rfl⟩))
  go_ret
  exact ⟨rfl, (Below.refl w.heap.size w).alloc (Nat.le_refl _) _⟩
end Go.Proofs.Ytihndnclplkleaa
