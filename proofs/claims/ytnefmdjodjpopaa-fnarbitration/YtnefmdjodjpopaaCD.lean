import Derived.Test.YtnefmdjodjpopaaAC
namespace Go.Proofs.Ytnefmdjodjpopaa
set_option linter.unusedVariables false

theorem stuff_pre2 (a b : List Nat) : ∃ t, M.stuffL (a ++ b) = M.stuffL a ++ t := by
  induction b using M.snoc_ind with
  | h0 => exact ⟨[], by simp⟩
  | h1 b c ih =>
    obtain ⟨t, ht⟩ := ih
    rw [← List.append_assoc, M.stuffL_snoc, ht]
    unfold M.stStep
    split
    · exact ⟨t ++ [c] ++ [97 - c], by simp⟩
    · exact ⟨t ++ [c], by simp⟩
/-- the first place at which two texts of letters differ -/
theorem first_diff : ∀ (x y : List Nat), x ≠ y → (∀ t, x ≠ y ++ t) → (∀ t, y ≠ x ++ t) → ∃ q c d rx ry, x = q ++ c :: rx ∧ y = q ++ d :: ry ∧ c ≠ d
  | [], y, h, h1, h2 => absurd rfl (h2 y)
  | a :: x, [], h, h1, h2 => absurd rfl (h1 (a :: x))
  | a :: x, b :: y, h, h1, h2 => by
    by_cases e : a = b
    · subst e
      obtain ⟨q, c, d, rx, ry, e1, e2, e3⟩ := first_diff x y (fun e => h (by rw [e])) (fun t e => h1 t (by rw [e]; rfl)) (fun t e => h2 t (by rw [e]; rfl))
      exact ⟨a :: q, c, d, rx, ry, by rw [e1]; rfl, by rw [e2]; rfl, e3⟩
    · exact ⟨[], a, b, x, y, rfl, rfl, e⟩
/-- stuffed, they differ first at the same letters -/
theorem stuff_diff (q : List Nat) (c : Nat) (r : List Nat) : ∃ t, M.stuffL (q ++ c :: r) = M.stuffL q ++ c :: t := by
  obtain ⟨t, ht⟩ := stuff_pre2 (q ++ [c]) r
  rw [List.append_assoc, List.singleton_append, M.stuffL_snoc] at ht
  rw [ht]
  unfold M.stStep
  split
  · exact ⟨[97 - c] ++ t, by simp⟩
  · exact ⟨t, by simp⟩
/-- arbitration fields: as long as each other, or parted at the thirteenth letter -/
theorem arb_unlike (e1 : Bool) (i1 : Nat) (r1 : Bool) (e2 : Bool) (i2 : Nat) (r2 : Bool) (t : List Nat) (h : arbL e1 i1 r1 = arbL e2 i2 r2 ++ t) : arbL e1 i1 r1 = arbL e2 i2 r2 := by
  have n1 := M.num_length 11 i1
  have n2 := M.num_length 11 i2
  have m1 := M.num_length 11 (i1 / 2 ^ 18)
  have m2 := M.num_length 11 (i2 / 2 ^ 18)
  have k1 := M.num_length 18 i1
  have k2 := M.num_length 18 i2
  have hl := congrArg List.length h
  cases e1 <;> cases e2
  · have : t = [] := by
      simp [arbL, n1, n2] at hl
      exact List.eq_nil_of_length_eq_zero (by omega)
    rw [h, this, List.append_nil]
  · exfalso
    simp [arbL, n1, m2, k2] at hl
    omega
  · exfalso
    have hg := congrArg (fun l => l.getD 12 0) h
    simp [arbL, List.getD_eq_getElem?_getD, List.getElem?_append, n2, m1] at hg
  · have : t = [] := by
      simp [arbL, m1, m2, k1, k2] at hl
      exact List.eq_nil_of_length_eq_zero (by omega)
    rw [h, this, List.append_nil]
/-- a plain text opens with its arbitration field -/
theorem plain_arb (e : Bool) (i : Nat) (r : Bool) (d : Nat) (l : List Nat) : ∃ t, plainL e i r d l = 48 :: (arbL e i r ++ t) := by
  unfold plainL bodyL
  exact ⟨M.num 0 (1 + e.toNat) ++ (M.num d 4 ++ (l.flatMap (fun x => M.num x 8) ++ M.num (M.crcN (([48] ++ arbL e i r ++ M.num 0 (1 + e.toNat) ++ M.num d 4 ++ l.flatMap fun x => M.num x 8).map (fun x => x - 48))) 15)), by simp⟩
/-- where two images first differ: at letters c and d, as the arbitration fields do -/
theorem arb_diff (e1 : Bool) (i1 : Nat) (r1 : Bool) (d1 : Nat) (l1 : List Nat) (e2 : Bool) (i2 : Nat) (r2 : Bool) (d2 : Nat) (l2 : List Nat) (h : arbL e1 i1 r1 ≠ arbL e2 i2 r2) (T : List Nat) :
    ∃ p c d q tx ty ux uy, arbL e1 i1 r1 = q ++ c :: tx ∧ arbL e2 i2 r2 = q ++ d :: ty ∧ M.stuffL (plainL e1 i1 r1 d1 l1) ++ T = p ++ c :: ux ∧ M.stuffL (plainL e2 i2 r2 d2 l2) ++ T = p ++ d :: uy ∧ c ≠ d := by
  obtain ⟨q, c, d, tx, ty, a1, a2, a3⟩ := first_diff _ _ h (fun t e => h (arb_unlike _ _ _ _ _ _ t e)) (fun t e => h (arb_unlike _ _ _ _ _ _ t e).symm)
  obtain ⟨t1, b1⟩ := plain_arb e1 i1 r1 d1 l1
  obtain ⟨t2, b2⟩ := plain_arb e2 i2 r2 d2 l2
  rw [a1] at b1
  rw [a2] at b2
  have c1 : plainL e1 i1 r1 d1 l1 = (48 :: q) ++ c :: (tx ++ t1) := by rw [b1]; simp
  have c2 : plainL e2 i2 r2 d2 l2 = (48 :: q) ++ d :: (ty ++ t2) := by rw [b2]; simp
  obtain ⟨s1, f1⟩ := stuff_diff (48 :: q) c (tx ++ t1)
  obtain ⟨s2, f2⟩ := stuff_diff (48 :: q) d (ty ++ t2)
  refine ⟨M.stuffL (48 :: q), c, d, q, tx, ty, s1 ++ T, s2 ++ T, a1, a2, ?_, ?_, a3⟩
  · rw [c1, f1]; simp
  · rw [c2, f2]; simp
end Go.Proofs.Ytnefmdjodjpopaa
