import Derived.Test.YtnefmdjodjpopaaC
namespace Go.Proofs.Ytnefmdjodjpopaa
open Go.RowKit

/-- the five letters ahead of place i are equal -/
def dueF (f : Nat → Nat) (i : Nat) : Bool :=
  decide (5 ≤ i) && (f (i - 1) == f (i - 2) && f (i - 2) == f (i - 3) && f (i - 3) == f (i - 4) && f (i - 4) == f (i - 5))

set_option maxHeartbeats 1000000 in
theorem due_any (w : World) (g n cap i : Nat) (f : Nat → Nat) (hrow : rowB w g n f) (hi : i ≤ n) (hn : n ≤ 100000000) :
    Calls Try.prog 51 #[.slice (some ⟨g, 0, none⟩) n cap, .int .i64 i] w fun e w' => e = .returned (.bool (dueF f i)) ∧ ∃ q, w' = w.drewN q := by
  by_cases h5 : i < 5
  · have HD : Hid (dueF f i = false) := by simp [dueF, Hid]; omega
    go_enter Try.func51, Try.ntmps51
    go_wp2
    go_ret
    exact ⟨ret_bool HD.out.symm, 0, rfl⟩
  · obtain ⟨k, rfl⟩ : ∃ k, i = k + 5 := ⟨i - 5, by omega⟩
    have c1 := hrow.cell (k + 4) (by omega)
    have c2 := hrow.cell (k + 3) (by omega)
    have c3 := hrow.cell (k + 2) (by omega)
    have c4 := hrow.cell (k + 1) (by omega)
    have c5 := hrow.cell k (by omega)
    have HD : Hid (dueF f (k + 5) = (f (k + 4) == f (k + 3) && f (k + 3) == f (k + 2) && f (k + 2) == f (k + 1) && f (k + 1) == f k)) := by
      simp [dueF, Hid]
    generalize f (k + 4) = x1 at *
    generalize f (k + 3) = x2 at *
    generalize f (k + 2) = x3 at *
    generalize f (k + 1) = x4 at *
    generalize f k = x5 at *
    clear hrow
    by_cases e1 : x1 = x2
    · have b1 : ((x1 : Int) == (x2 : Int)) = true := by simp; omega
      have E1 : Hid (x1 = x2) := e1
      clear e1
      by_cases e2 : x2 = x3
      · have b2 : ((x2 : Int) == (x3 : Int)) = true := by simp; omega
        have E2 : Hid (x2 = x3) := e2
        clear e2
        by_cases e3 : x3 = x4
        · have b3 : ((x3 : Int) == (x4 : Int)) = true := by simp; omega
          have E3 : Hid (x3 = x4) := e3
          clear e3
          by_cases e4 : x4 = x5
          · have b4 : ((x4 : Int) == (x5 : Int)) = true := by simp; omega
            have E4 : Hid (x4 = x5) := e4
            clear e4
            go_enter Try.func51, Try.ntmps51
            go_wp2
            go_quiet (fail)
            go_wp2
            go_ret
            exact ⟨ret_bool (by rw [HD.out]; simp [E1.out, E2.out, E3.out, E4.out]), _, rfl⟩
          · have b4 : ((x4 : Int) == (x5 : Int)) = false := by simp; omega
            have E4 : Hid (¬ x4 = x5) := e4
            clear e4
            go_enter Try.func51, Try.ntmps51
            go_wp2
            go_quiet (fail)
            go_wp2
            go_ret
            exact ⟨ret_bool (by rw [HD.out]; simp [E4.out]), _, rfl⟩
        · have b3 : ((x3 : Int) == (x4 : Int)) = false := by simp; omega
          have E3 : Hid (¬ x3 = x4) := e3
          clear e3
          go_enter Try.func51, Try.ntmps51
          go_wp2
          go_quiet (fail)
          go_wp2
          go_ret
          exact ⟨ret_bool (by rw [HD.out]; simp [E3.out]), _, rfl⟩
      · have b2 : ((x2 : Int) == (x3 : Int)) = false := by simp; omega
        have E2 : Hid (¬ x2 = x3) := e2
        clear e2
        go_enter Try.func51, Try.ntmps51
        go_wp2
        go_quiet (fail)
        go_wp2
        go_ret
        exact ⟨ret_bool (by rw [HD.out]; simp [E2.out]), _, rfl⟩
    · have b1 : ((x1 : Int) == (x2 : Int)) = false := by simp; omega
      have E1 : Hid (¬ x1 = x2) := e1
      clear e1
      go_enter Try.func51, Try.ntmps51
      go_wp2
      go_quiet (fail)
      go_wp2
      go_ret
      exact ⟨ret_bool (by rw [HD.out]; simp [E1.out]), _, rfl⟩
end Go.Proofs.Ytnefmdjodjpopaa
