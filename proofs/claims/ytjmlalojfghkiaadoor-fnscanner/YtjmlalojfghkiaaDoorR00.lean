namespace Go.Proofs.YtjmlalojfghkiaaDoor.J.M
/-- one bit into the register of fifteen -/
def stepN (r b : Nat) : Nat := if b ≠ r / 16384 then ((2 * r) % 32768) ^^^ 17817 else (2 * r) % 32768
def crcN (l : List Nat) : Nat := l.foldl stepN 0
theorem stepN_lt (r b : Nat) : stepN r b < 32768 := by
  unfold stepN
  split
  · exact Nat.xor_lt_two_pow (n := 15) (by omega) (by decide)
  · omega
theorem crcN_lt (l : List Nat) : crcN l < 32768 := by
  unfold crcN
  rcases List.eq_nil_or_concat l with rfl | ⟨a, b, rfl⟩
  · decide
  · rw [List.concat_eq_append, List.foldl_append]; exact stepN_lt _ _
theorem crcN_snoc (l : List Nat) (b : Nat) : crcN (l ++ [b]) = stepN (crcN l) b := by
  simp [crcN, List.foldl_append]
def mb (l : List Nat) (j : Nat) : Bool := l.getD j 0 == 1
def gbit (k : Nat) : Bool := Nat.testBit 50585 (15 - k)
/-- what stands at place j of the long division behind i rounds -/
def V (l : List Nat) (i j : Nat) : Bool := if j < i then false else mb l j ^^ (decide (j < i + 15) && (crcN (l.take i)).testBit (14 - (j - i)))
theorem dbl_testBit (r k : Nat) : ((2 * r) % 32768).testBit k = (decide (k < 15) && decide (1 ≤ k) && r.testBit (k - 1)) := by
  rw [show (32768 : Nat) = 2 ^ 15 from rfl, Nat.testBit_mod_two_pow]
  cases k with
  | zero => simp [Nat.testBit_zero]
  | succ k =>
    have : (2 * r).testBit (k + 1) = r.testBit k := by rw [Nat.testBit_succ]; congr 1; omega
    rw [this]; simp
theorem poly_bit (k : Nat) (h : k < 15) : Nat.testBit 17817 k = gbit (15 - k) := by
  revert k h; decide
theorem top_bit (r : Nat) (h : r < 32768) : r.testBit 14 = decide (r / 16384 = 1) := by
  rw [Nat.testBit_eq_decide_div_mod_eq]
  congr 1
  have : r / 2 ^ 14 % 2 = r / 16384 := by
    rw [show (2 : Nat) ^ 14 = 16384 from rfl]; omega
  rw [this]
theorem V_self (l : List Nat) (i : Nat) (hb : ∀ x ∈ l, x < 2) (hi : i < l.length) : V l i i = decide (l[i] ≠ crcN (l.take i) / 16384) := by
  have hr := crcN_lt (l.take i)
  have h1 : l[i] < 2 := hb _ (List.getElem_mem hi)
  have hg : l.getD i 0 = l[i] := by simp [List.getD, hi]
  simp only [V, Nat.lt_irrefl, if_false, Nat.sub_self, Nat.sub_zero, top_bit _ hr, mb, hg]
  generalize crcN (l.take i) = r at *
  generalize l[i] = x at *
  have : r / 16384 < 2 := by omega
  generalize r / 16384 = y at *
  have hx : x = 0 ∨ x = 1 := by omega
  have hy : y = 0 ∨ y = 1 := by omega
  rcases hx with rfl | rfl <;> rcases hy with rfl | rfl <;> simp
theorem take_snoc' {α : Type} (l : List α) (i : Nat) (h : i < l.length) : l.take (i + 1) = l.take i ++ [l[i]] := by
  rw [List.take_succ_eq_append_getElem h]
theorem V_step (l : List Nat) (i j : Nat) (hb : ∀ x ∈ l, x < 2) (hi : i < l.length) :
    V l (i + 1) j = (V l i j ^^ (V l i i && (decide (i ≤ j ∧ j < i + 16) && gbit (j - i)))) := by
  have hs := V_self l i hb hi
  have hc : crcN (l.take (i + 1)) = stepN (crcN (l.take i)) l[i] := by rw [take_snoc' l i hi, crcN_snoc]
  by_cases h1 : j < i
  · have h2 : j < i + 1 := by omega
    have h3 : ¬ i ≤ j := by omega
    simp [V, h1, h2, h3]
  · by_cases h2 : j = i
    · subst h2
      have hg : gbit 0 = true := by decide
      have hv : V l (j + 1) j = false := by simp [V]
      rw [hv]
      simp [hg]
    · have h3 : ¬ j < i + 1 := by omega
      have h4 : i ≤ j := by omega
      rw [hs]
      by_cases h5 : j < i + 16
      · have h6 : 14 - (j - (i + 1)) < 15 := by omega
        have e1 : (decide (j < i + 1 + 15)) = true := by simp; omega
        have hV1 : V l (i + 1) j = (mb l j ^^ (stepN (crcN (l.take i)) l[i]).testBit (14 - (j - (i + 1)))) := by
          simp only [V, h3, if_false, e1, Bool.true_and, hc]
        have hpg : Nat.testBit 17817 (14 - (j - (i + 1))) = gbit (j - i) := by rw [poly_bit _ h6]; congr 1; omega
        have hV0 : V l i j = (mb l j ^^ ((2 * crcN (l.take i)) % 32768).testBit (14 - (j - (i + 1)))) := by
          rw [dbl_testBit]
          simp only [V, h1, if_false]
          congr 1
          by_cases h7 : j < i + 15
          · have a1 : (14 - (j - (i + 1))) < 15 := h6
            have a2 : 1 ≤ 14 - (j - (i + 1)) := by omega
            have a3 : 14 - (j - (i + 1)) - 1 = 14 - (j - i) := by omega
            simp only [h7, a1, a2, a3, decide_true, Bool.true_and]
          · have a2 : ¬ 1 ≤ 14 - (j - (i + 1)) := by omega
            simp only [h7, a2, decide_false, Bool.and_false, Bool.false_and]
        rw [hV1, hV0]
        unfold stepN
        by_cases h8 : l[i] ≠ crcN (l.take i) / 16384
        · simp only [if_pos h8, Nat.testBit_xor, hpg, h4, h5, decide_true, and_self, Bool.true_and, Bool.xor_assoc]
          simp [h8]
        · simp only [if_neg h8]
          simp [h8]
      · have e2 : (decide (j < i + 15)) = false := by simp; omega
        simp [V, h1, h3, e2, h5]
theorem V_zero (l : List Nat) (j : Nat) : V l 0 j = mb l j := by simp [V, crcN]
theorem V_end (l : List Nat) (k : Nat) (hk : k < 15) : V l l.length (l.length + k) = (crcN l).testBit (14 - k) := by
  have h1 : ¬ l.length + k < l.length := by omega
  have h2 : l.length + k < l.length + 15 := by omega
  have h3 : l.length + k - l.length = k := by omega
  have h4 : l.getD (l.length + k) 0 = 0 := by simp [List.getD]
  simp only [V, h1, if_false, mb, h4, h2, h3, decide_true, Bool.true_and, List.take_length]
  simp
/-- the value of the first k of fifteen bits, the highest first -/
def topv (r k : Nat) : Nat := r / 2 ^ (15 - k)
theorem topv_zero (r : Nat) (h : r < 32768) : topv r 0 = 0 := by unfold topv; exact Nat.div_eq_of_lt h
theorem topv_succ (r k : Nat) (hk : k < 15) : topv r (k + 1) = 2 * topv r k + (r.testBit (14 - k)).toNat := by
  unfold topv
  have e : 15 - k = (14 - k) + 1 := by omega
  have e' : 15 - (k + 1) = 14 - k := by omega
  rw [e, e', Nat.pow_succ, ← Nat.div_div_eq_div_mul, Nat.testBit_eq_decide_div_mod_eq]
  generalize r / 2 ^ (14 - k) = y
  by_cases h : y % 2 = 1
  · simp [h]; omega
  · have : y % 2 = 0 := by omega
    simp [this]; omega
theorem topv_end (r : Nat) : topv r 15 = r := by simp [topv]
theorem topv_le (r k : Nat) (h : r < 32768) : topv r k < 32768 := Nat.lt_of_le_of_lt (Nat.div_le_self _ _) h
/-- the row of equal letters heard last: its letter, its length -/
def hear (r : Nat × Nat) (c : Nat) : Nat × Nat := if c = r.1 then (r.1, r.2 + 1) else (c, 1)
def trail (l : List Nat) : Nat × Nat := l.foldl hear (0, 0)
def stStep (out : List Nat) (c : Nat) : List Nat := if (trail (out ++ [c])).2 = 5 then out ++ [c] ++ [97 - c] else out ++ [c]
def stuffL (l : List Nat) : List Nat := l.foldl stStep []
def isL (c : Nat) : Prop := c = 48 ∨ c = 49
theorem trail_snoc (l : List Nat) (c : Nat) : trail (l ++ [c]) = hear (trail l) c := by simp [trail]
theorem stuffL_snoc (l : List Nat) (c : Nat) : stuffL (l ++ [c]) = stStep (stuffL l) c := by simp [stuffL]
theorem hear_fst (r : Nat × Nat) (c : Nat) : (hear r c).1 = c := by
  unfold hear; split
  · rename_i h; exact h.symm
  · rfl
theorem hear_pos (r : Nat × Nat) (c : Nat) : 1 ≤ (hear r c).2 := by
  unfold hear; split
  · exact Nat.succ_le_succ (Nat.zero_le _)
  · exact Nat.le_refl _
theorem hear_le (r : Nat × Nat) (c : Nat) : (hear r c).2 ≤ r.2 + 1 := by
  unfold hear; split
  · exact Nat.le_refl _
  · exact Nat.succ_le_succ (Nat.zero_le _)
theorem snoc_cases {α : Type} (l : List α) (h : l ≠ []) : ∃ l' a, l = l' ++ [a] := by
  rcases List.eq_nil_or_concat l with e | ⟨a, b, e⟩
  · exact absurd e h
  · exact ⟨a, b, by rw [e, List.concat_eq_append]⟩
theorem snoc_ind {α : Type} {P : List α → Prop} (h0 : P []) (h1 : ∀ l a, P l → P (l ++ [a])) (l : List α) : P l := by
  have : ∀ n, ∀ l : List α, l.length = n → P l := by
    intro n
    induction n with
    | zero => intro l hl; rw [List.length_eq_zero_iff.1 hl]; exact h0
    | succ n ih =>
      intro l hl
      obtain ⟨l', a, rfl⟩ := snoc_cases l (by intro e; simp [e] at hl)
      exact h1 l' a (ih l' (by simpa using hl))
  exact this _ l rfl
theorem trail_le (l : List Nat) : (trail l).2 ≤ l.length := by
  induction l using snoc_ind with
  | h0 => exact Nat.le_refl _
  | h1 l a ih => rw [trail_snoc, List.length_append]; exact Nat.le_trans (hear_le _ _) (by simpa using ih)
theorem hear_same (a m : Nat) : hear (a, m) a = (a, m + 1) := by simp [hear]
theorem hear_other (a m b : Nat) (h : ¬ b = a) : hear (a, m) b = (b, 1) := by simp [hear, h]
theorem trail5 (l : List Nat) (a b c d e : Nat) : (5 ≤ (trail (l ++ [a] ++ [b] ++ [c] ++ [d] ++ [e])).2) ↔ (e = d ∧ d = c ∧ c = b ∧ b = a) := by
  simp only [trail_snoc]
  have h1 := hear_fst (trail l) a
  have h2 := hear_pos (trail l) a
  generalize hear (trail l) a = r at *
  obtain ⟨x, m⟩ := r
  simp only at h1 h2
  subst h1
  by_cases hb : b = x
  · subst hb
    rw [hear_same]
    by_cases hc : c = b
    · subst hc
      rw [hear_same]
      by_cases hd : d = c
      · subst hd
        rw [hear_same]
        by_cases he : e = d
        · subst he
          rw [hear_same]
          simp; omega
        · rw [hear_other _ _ _ he]; simp [he]
      · rw [hear_other _ _ _ hd]
        have := hear_le (d, 1) e
        simp [hd]; simp at this; omega
    · rw [hear_other _ _ _ hc]
      have h3 := hear_le (c, 1) d
      have h4 := hear_le (hear (c, 1) d) e
      simp [hc]; simp at h3; omega
  · rw [hear_other _ _ _ hb]
    have h2 := hear_le (b, 1) c
    have h3 := hear_le (hear (b, 1) c) d
    have h4 := hear_le (hear (hear (b, 1) c) d) e
    simp [hb]; simp at h2; omega
theorem isL_opp {c : Nat} (h : isL c) : isL (97 - c) ∧ ¬ 97 - c = c := by
  rcases h with rfl | rfl
  · exact ⟨.inr rfl, by decide⟩
  · exact ⟨.inl rfl, by decide⟩
theorem stuff_all (l : List Nat) (h : ∀ x ∈ l, isL x) : ∀ x ∈ stuffL l, isL x := by
  induction l using snoc_ind with
  | h0 => intro x hx; simp [stuffL] at hx
  | h1 l a ih =>
    have ha : isL a := h a (by simp)
    have hl := ih (fun x hx => h x (by simp [hx]))
    rw [stuffL_snoc]
    intro x hx
    unfold stStep at hx
    split at hx
    · simp at hx
      rcases hx with hx | rfl | rfl
      · exact hl x hx
      · exact ha
      · exact (isL_opp ha).1
    · simp at hx
      rcases hx with hx | rfl
      · exact hl x hx
      · exact ha
theorem stuff_run (l : List Nat) (h : ∀ x ∈ l, isL x) : (trail (stuffL l)).2 ≤ 4 := by
  induction l using snoc_ind with
  | h0 => decide
  | h1 l a ih =>
    have ha : isL a := h a (by simp)
    have hl := ih (fun x hx => h x (by simp [hx]))
    rw [stuffL_snoc]
    unfold stStep
    rw [trail_snoc]
    have h1 := hear_le (trail (stuffL l)) a
    split
    · rename_i h5
      rw [trail_snoc, trail_snoc]
      have hf := hear_fst (trail (stuffL l)) a
      generalize hear (trail (stuffL l)) a = r at *
      obtain ⟨x, m⟩ := r
      simp only at hf
      subst hf
      rw [hear_other _ _ _ (isL_opp ha).2]
      exact (by decide : 1 ≤ 4)
    · rw [trail_snoc]; omega
theorem stuff_len (l : List Nat) : (stuffL l).length ≤ 2 * l.length := by
  induction l using snoc_ind with
  | h0 => decide
  | h1 l a ih =>
    rw [stuffL_snoc]; unfold stStep
    split <;> simp <;> omega
theorem stuff_ge (l : List Nat) : l.length ≤ (stuffL l).length := by
  induction l using snoc_ind with
  | h0 => decide
  | h1 l a ih =>
    rw [stuffL_snoc]; unfold stStep
    split <;> simp <;> omega
end Go.Proofs.YtjmlalojfghkiaaDoor.J.M
