import Derived.Test.YtihndnclplkleaaHP
namespace Go.Proofs.Ytihndnclplkleaa
open Go.RowKit
/-- the error state -/
def esZ (p t r : Int) : Int := if p = 7 then 2 else if 128 ≤ t ∨ 128 ≤ r then 1 else 0
theorem l4state_any (w : World) (p t r : Int) : Calls Try.prog 57 #[.int .i64 p, .int .i64 t, .int .i64 r] w fun o w' => o = .returned (.int .i64 (esZ p t r)) ∧ w = w' := by
  by_cases h : p = 7
  · have HZ : Hid (esZ p t r = 2) := by unfold Hid esZ; rw [if_pos h]
    have hd : (p == 7) = true := by simpa using h
    clear h
    go_enter Try.func57, Try.ntmps57
    go_wp2
    go_ret
    exact ⟨ret_int HZ.out.symm, rfl⟩
  · have hd : (p == 7) = false := by simpa using h
    by_cases ht : 128 ≤ t
    · have HZ : Hid (esZ p t r = 1) := by unfold Hid esZ; rw [if_neg h, if_pos (.inl ht)]
      have hd1 : decide (128 ≤ t) = true := by simpa using ht
      clear h
      go_enter Try.func57, Try.ntmps57
      go_wp2
      go_ret
      exact ⟨ret_int HZ.out.symm, rfl⟩
    · have hd1 : decide (128 ≤ t) = false := by simpa using ht
      by_cases hr : 128 ≤ r
      · have HZ : Hid (esZ p t r = 1) := by unfold Hid esZ; rw [if_neg h, if_pos (.inr hr)]
        have hd2 : decide (128 ≤ r) = true := by simpa using hr
        clear h
        go_enter Try.func57, Try.ntmps57
        go_wp2
        go_ret
        exact ⟨ret_int HZ.out.symm, rfl⟩
      · have hd2 : decide (128 ≤ r) = false := by simpa using hr
        have HZ : Hid (esZ p t r = 0) := by unfold Hid esZ; rw [if_neg h, if_neg (by omega)]
        clear h
        go_enter Try.func57, Try.ntmps57
        go_wp2
        go_ret
        exact ⟨ret_int HZ.out.symm, rfl⟩
theorem stateOf_any (w : World) (p t r : Int) (b : Bool) (hb : b = decide (p = 7)) : Calls Try.prog 59 #[.bool b, .int .i64 t, .int .i64 r] w fun o w' => o = .returned (.int .i64 (esZ p t r)) ∧ w = w' := by
  by_cases h : p = 7
  · have HZ : Hid (esZ p t r = 2) := by unfold Hid esZ; rw [if_pos h]
    have hd : b = true := by rw [hb]; simpa using h
    subst hd
    clear hb h
    go_enter Try.func59, Try.ntmps59
    go_wp2
    go_ret
    exact ⟨ret_int HZ.out.symm, rfl⟩
  · have hd : b = false := by rw [hb]; simpa using h
    subst hd
    by_cases ht : 128 ≤ max t r
    · have HZ : Hid (esZ p t r = 1) := by unfold Hid esZ; rw [if_neg h, if_pos (by omega)]
      clear hb h
      have hd1 : decide (128 ≤ max t r) = true := by simpa using ht
      go_enter Try.func59, Try.ntmps59
      go_wp2
      all_goals
        go_ret
        exact ⟨ret_int HZ.out.symm, rfl⟩
    · have HZ : Hid (esZ p t r = 0) := by unfold Hid esZ; rw [if_neg h, if_neg (by omega)]
      clear hb h
      have hd1 : decide (128 ≤ max t r) = false := by simpa using ht
      go_enter Try.func59, Try.ntmps59
      go_wp2
      all_goals
        go_ret
        exact ⟨ret_int HZ.out.symm, rfl⟩
set_option maxRecDepth 20000 in
theorem specES_any (w : World) (C : Co) (s : Sl) : Calls Try.prog 22 #[coV C s] w fun o w' => o = .returned (.int .i64 (esZ C.p C.te C.re)) ∧ Below w.heap.size w w' := by
  obtain ⟨p, ct, lv, wk, ov, ow, tx, ak, rn, te, re, ⟨c0, c1, c2, c3, fs, bx, ff, qu, lo, st⟩⟩ := C
  obtain ⟨a1, n1, k1, a2, n2, k2, a3, n3, k3, a4, n4, k4⟩ := s
  go_enter Try.func22, Try.ntmps22
  go_wp2_with (first | (go_at_call 57; refine (l4state_any _ _ _ _).mono ?_; rintro o w1 ⟨rfl, rfl⟩))
  go_ret
  exact ⟨rfl, (Below.refl _ _).alloc (Nat.le_refl _) _⟩
set_option maxRecDepth 20000 in
theorem implES_any (w : World) (C : Co) (s : Sl) : Calls Try.prog 24 #[coV C s] w fun o w' => o = .returned (.int .i64 (esZ C.p C.te C.re)) ∧ Below w.heap.size w w' := by
  obtain ⟨p, ct, lv, wk, ov, ow, tx, ak, rn, te, re, ⟨c0, c1, c2, c3, fs, bx, ff, qu, lo, st⟩⟩ := C
  obtain ⟨a1, n1, k1, a2, n2, k2, a3, n3, k3, a4, n4, k4⟩ := s
  go_enter Try.func24, Try.ntmps24
  go_wp2_with (first | (go_at_call 59; refine (stateOf_any _ p _ _ _ (by first | rfl | (rw [Bool.eq_iff_iff]; simp))).mono ?_; rintro o w1 ⟨rfl, rfl⟩))
  go_ret
  exact ⟨rfl, (Below.refl _ _).alloc (Nat.le_refl _) _⟩
end Go.Proofs.Ytihndnclplkleaa
