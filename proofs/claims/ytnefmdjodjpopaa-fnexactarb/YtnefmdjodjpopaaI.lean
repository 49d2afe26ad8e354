import Derived.Test.YtnefmdjodjpopaaH
namespace Go.Proofs.Ytnefmdjodjpopaa
open Go.RowKit

/-- a frame that the wire can carry -/
def validB (e : Bool) (i : Nat) (r : Bool) (d : Int) (n : Nat) : Bool :=
  (if e = true then decide (i < 536870912) else decide (i < 2048)) && decide (0 ≤ d) && decide (d ≤ 15) && ((n : Int) == dl r d)
theorem validB_id (e : Bool) (i : Nat) (r : Bool) (d : Int) (n : Nat) (h : (if e = true then decide (i < 536870912) else decide (i < 2048)) = false) : validB e i r d n = false := by
  unfold validB; rw [h]; rfl
theorem validB_d (e : Bool) (i : Nat) (r : Bool) (d : Int) (n : Nat) (h : ¬ (0 ≤ d ∧ d ≤ 15)) : validB e i r d n = false := by
  unfold validB
  by_cases h1 : 0 ≤ d
  · have h2 : ¬ d ≤ 15 := by omega
    simp [h2]
  · simp [h1]
theorem validB_n (e : Bool) (i : Nat) (r : Bool) (d : Int) (n : Nat) (h : (if e = true then decide (i < 536870912) else decide (i < 2048)) = true) (h0 : 0 ≤ d) (h1 : d ≤ 15) : validB e i r d n = ((n : Int) == dl r d) := by
  unfold validB; rw [h]; simp [h0, h1]

set_option maxHeartbeats 1000000 in
set_option maxRecDepth 100000 in
theorem specValid_any (w : World) (e : Bool) (i : Nat) (r : Bool) (d : Int) (a : Option Addr) (n cap : Nat) :
    Calls Try.prog 23 #[frV e i r d a n cap] w fun o w' => o = .returned (.bool (validB e i r d n)) ∧ Below w.heap.size w w' := by
  by_cases hid : (if e = true then decide (i < 536870912) else decide (i < 2048)) = true
  · by_cases h0 : 0 ≤ d
    · by_cases h1 : d ≤ 15
      · have HV : Hid (validB e i r d n = ((n : Int) == dl r d)) := validB_n e i r d n hid h0 h1
        cases e
        · have hid' : (i : Int) < 2048 := by simp at hid; omega
          clear hid
          go_enter Try.func23, Try.ntmps23
          go_wp2
          go_region_with (go_at_call 57; refine (specDataLen_any _ _ _ _ _ _ _ _).mono ?_; rintro o w1 ⟨rfl, rfl⟩)
          all_goals
            go_wp2
            go_ret
            exact ⟨ret_bool HV.out.symm, (((Below.refl _ _).alloc (Nat.le_refl _) _).alloc (by simp) _).drew⟩
        · have hid' : decide ((536870912 : Int) ≤ (i : Int)) = false := by simp at hid; simp; omega
          clear hid
          go_enter Try.func23, Try.ntmps23
          go_wp2
          go_region_with (go_at_call 57; refine (specDataLen_any _ _ _ _ _ _ _ _).mono ?_; rintro o w1 ⟨rfl, rfl⟩)
          all_goals
            go_wp2
            go_ret
            exact ⟨ret_bool HV.out.symm, (((Below.refl _ _).alloc (Nat.le_refl _) _).alloc (by simp) _).drew⟩
      · have HV : Hid (validB e i r d n = false) := validB_d e i r d n (by omega)
        cases e
        · have hid' : (i : Int) < 2048 := by simp at hid; omega
          clear hid
          go_enter Try.func23, Try.ntmps23
          go_wp2
          go_ret
          exact ⟨ret_bool HV.out.symm, (Below.refl _ _).alloc (Nat.le_refl _) _⟩
        · have hid' : decide ((536870912 : Int) ≤ (i : Int)) = false := by simp at hid; simp; omega
          clear hid
          go_enter Try.func23, Try.ntmps23
          go_wp2
          go_ret
          exact ⟨ret_bool HV.out.symm, (Below.refl _ _).alloc (Nat.le_refl _) _⟩
    · have HV : Hid (validB e i r d n = false) := validB_d e i r d n (by omega)
      cases e
      · have hid' : (i : Int) < 2048 := by simp at hid; omega
        clear hid
        go_enter Try.func23, Try.ntmps23
        go_wp2
        go_ret
        exact ⟨ret_bool HV.out.symm, (Below.refl _ _).alloc (Nat.le_refl _) _⟩
      · have hid' : decide ((536870912 : Int) ≤ (i : Int)) = false := by simp at hid; simp; omega
        clear hid
        go_enter Try.func23, Try.ntmps23
        go_wp2
        go_ret
        exact ⟨ret_bool HV.out.symm, (Below.refl _ _).alloc (Nat.le_refl _) _⟩
  · have HV : Hid (validB e i r d n = false) := validB_id e i r d n (by rw [← Bool.not_eq_true]; exact hid)
    cases e
    · have hid' : (2048 : Int) ≤ (i : Int) := by simp at hid; omega
      clear hid
      go_enter Try.func23, Try.ntmps23
      go_wp2
      go_ret
      exact ⟨ret_bool HV.out.symm, (Below.refl _ _).alloc (Nat.le_refl _) _⟩
    · have hid' : decide ((536870912 : Int) ≤ (i : Int)) = true := by simp at hid; simp; omega
      clear hid
      go_enter Try.func23, Try.ntmps23
      go_wp2
      go_ret
      exact ⟨ret_bool HV.out.symm, (Below.refl _ _).alloc (Nat.le_refl _) _⟩
end Go.Proofs.Ytnefmdjodjpopaa
