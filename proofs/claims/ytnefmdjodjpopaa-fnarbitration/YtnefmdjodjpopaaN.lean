namespace Go.Proofs.Ytnefmdjodjpopaa.M

/-- the row of equal letters heard last: its letter, its length -/
def hear (r : Nat × Nat) (c : Nat) : Nat × Nat := if c = r.1 then (r.1, r.2 + 1) else (c, 1)
def trail (l : List Nat) : Nat × Nat := l.foldl hear (0, 0)
def stStep (out : List Nat) (c : Nat) : List Nat := if (trail (out ++ [c])).2 = 5 then out ++ [c] ++ [97 - c] else out ++ [c]
def stuffL (l : List Nat) : List Nat := l.foldl stStep []
def isL (c : Nat) : Prop := c = 48 ∨ c = 49

theorem trail_snoc (l : List Nat) (c : Nat) : trail (l ++ [c]) = hear (trail l) c := by simp [trail]
theorem stuffL_snoc (l : List Nat) (c : Nat) : stuffL (l ++ [c]) = stStep (stuffL l) c := by simp [stuffL]
theorem hear_fst (r : Nat × Nat) (c : Nat) : (hear r c).1 = c := by
  unfold hear; split
  · rename_i h; exact h.symm
  · rfl
theorem hear_pos (r : Nat × Nat) (c : Nat) : 1 ≤ (hear r c).2 := by
  unfold hear; split
  · exact Nat.succ_le_succ (Nat.zero_le _)
  · exact Nat.le_refl _
theorem hear_le (r : Nat × Nat) (c : Nat) : (hear r c).2 ≤ r.2 + 1 := by
  unfold hear; split
  · exact Nat.le_refl _
  · exact Nat.succ_le_succ (Nat.zero_le _)
theorem snoc_cases {α : Type} (l : List α) (h : l ≠ []) : ∃ l' a, l = l' ++ [a] := by
  rcases List.eq_nil_or_concat l with e | ⟨a, b, e⟩
  · exact absurd e h
  · exact ⟨a, b, by rw [e, List.concat_eq_append]⟩
theorem snoc_ind {α : Type} {P : List α → Prop} (h0 : P []) (h1 : ∀ l a, P l → P (l ++ [a])) (l : List α) : P l := by
  have : ∀ n, ∀ l : List α, l.length = n → P l := by
    intro n
    induction n with
    | zero => intro l hl; rw [List.length_eq_zero_iff.1 hl]; exact h0
    | succ n ih =>
      intro l hl
      obtain ⟨l', a, rfl⟩ := snoc_cases l (by intro e; simp [e] at hl)
      exact h1 l' a (ih l' (by simpa using hl))
  exact this _ l rfl
theorem trail_le (l : List Nat) : (trail l).2 ≤ l.length := by
  induction l using snoc_ind with
  | h0 => exact Nat.le_refl _
  | h1 l a ih => rw [trail_snoc, List.length_append]; exact Nat.le_trans (hear_le _ _) (by simpa using ih)
theorem hear_same (a m : Nat) : hear (a, m) a = (a, m + 1) := by simp [hear]
theorem hear_other (a m b : Nat) (h : ¬ b = a) : hear (a, m) b = (b, 1) := by simp [hear, h]

theorem trail5 (l : List Nat) (a b c d e : Nat) : (5 ≤ (trail (l ++ [a] ++ [b] ++ [c] ++ [d] ++ [e])).2) ↔ (e = d ∧ d = c ∧ c = b ∧ b = a) := by
  simp only [trail_snoc]
  have h1 := hear_fst (trail l) a
  have h2 := hear_pos (trail l) a
  generalize hear (trail l) a = r at *
  obtain ⟨x, m⟩ := r
  simp only at h1 h2
  subst h1
  by_cases hb : b = x
  · subst hb
    rw [hear_same]
    by_cases hc : c = b
    · subst hc
      rw [hear_same]
      by_cases hd : d = c
      · subst hd
        rw [hear_same]
        by_cases he : e = d
        · subst he
          rw [hear_same]
          simp; omega
        · rw [hear_other _ _ _ he]; simp [he]
      · rw [hear_other _ _ _ hd]
        have := hear_le (d, 1) e
        simp [hd]; simp at this; omega
    · rw [hear_other _ _ _ hc]
      have h3 := hear_le (c, 1) d
      have h4 := hear_le (hear (c, 1) d) e
      simp [hc]; simp at h3; omega
  · rw [hear_other _ _ _ hb]
    have h2 := hear_le (b, 1) c
    have h3 := hear_le (hear (b, 1) c) d
    have h4 := hear_le (hear (hear (b, 1) c) d) e
    simp [hb]; simp at h2; omega

theorem isL_opp {c : Nat} (h : isL c) : isL (97 - c) ∧ ¬ 97 - c = c := by
  rcases h with rfl | rfl
  · exact ⟨.inr rfl, by decide⟩
  · exact ⟨.inl rfl, by decide⟩
theorem stuff_all (l : List Nat) (h : ∀ x ∈ l, isL x) : ∀ x ∈ stuffL l, isL x := by
  induction l using snoc_ind with
  | h0 => intro x hx; simp [stuffL] at hx
  | h1 l a ih =>
    have ha : isL a := h a (by simp)
    have hl := ih (fun x hx => h x (by simp [hx]))
    rw [stuffL_snoc]
    intro x hx
    unfold stStep at hx
    split at hx
    · simp at hx
      rcases hx with hx | rfl | rfl
      · exact hl x hx
      · exact ha
      · exact (isL_opp ha).1
    · simp at hx
      rcases hx with hx | rfl
      · exact hl x hx
      · exact ha
theorem stuff_run (l : List Nat) (h : ∀ x ∈ l, isL x) : (trail (stuffL l)).2 ≤ 4 := by
  induction l using snoc_ind with
  | h0 => decide
  | h1 l a ih =>
    have ha : isL a := h a (by simp)
    have hl := ih (fun x hx => h x (by simp [hx]))
    rw [stuffL_snoc]
    unfold stStep
    rw [trail_snoc]
    have h1 := hear_le (trail (stuffL l)) a
    split
    · rename_i h5
      rw [trail_snoc, trail_snoc]
      have hf := hear_fst (trail (stuffL l)) a
      generalize hear (trail (stuffL l)) a = r at *
      obtain ⟨x, m⟩ := r
      simp only at hf
      subst hf
      rw [hear_other _ _ _ (isL_opp ha).2]
      exact (by decide : 1 ≤ 4)
    · rw [trail_snoc]; omega
theorem stuff_len (l : List Nat) : (stuffL l).length ≤ 2 * l.length := by
  induction l using snoc_ind with
  | h0 => decide
  | h1 l a ih =>
    rw [stuffL_snoc]; unfold stStep
    split <;> simp <;> omega
theorem stuff_ge (l : List Nat) : l.length ≤ (stuffL l).length := by
  induction l using snoc_ind with
  | h0 => decide
  | h1 l a ih =>
    rw [stuffL_snoc]; unfold stStep
    split <;> simp <;> omega
end Go.Proofs.Ytnefmdjodjpopaa.M
