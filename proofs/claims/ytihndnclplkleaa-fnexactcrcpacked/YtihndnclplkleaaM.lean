namespace Go.Proofs.Ytihndnclplkleaa.M

/-- one bit into the register of fifteen -/
def stepN (r b : Nat) : Nat := if b ≠ r / 16384 then ((2 * r) % 32768) ^^^ 17817 else (2 * r) % 32768
def crcN (l : List Nat) : Nat := l.foldl stepN 0

theorem stepN_lt (r b : Nat) : stepN r b < 32768 := by
  unfold stepN
  split
  · exact Nat.xor_lt_two_pow (n := 15) (by omega) (by decide)
  · omega
theorem crcN_lt (l : List Nat) : crcN l < 32768 := by
  unfold crcN
  rcases List.eq_nil_or_concat l with rfl | ⟨a, b, rfl⟩
  · decide
  · rw [List.concat_eq_append, List.foldl_append]; exact stepN_lt _ _
theorem crcN_snoc (l : List Nat) (b : Nat) : crcN (l ++ [b]) = stepN (crcN l) b := by
  simp [crcN, List.foldl_append]

def mb (l : List Nat) (j : Nat) : Bool := l.getD j 0 == 1
def gbit (k : Nat) : Bool := Nat.testBit 50585 (15 - k)
/-- what stands at place j of the long division behind i rounds -/
def V (l : List Nat) (i j : Nat) : Bool := if j < i then false else mb l j ^^ (decide (j < i + 15) && (crcN (l.take i)).testBit (14 - (j - i)))

theorem dbl_testBit (r k : Nat) : ((2 * r) % 32768).testBit k = (decide (k < 15) && decide (1 ≤ k) && r.testBit (k - 1)) := by
  rw [show (32768 : Nat) = 2 ^ 15 from rfl, Nat.testBit_mod_two_pow]
  cases k with
  | zero => simp [Nat.testBit_zero]
  | succ k =>
    have : (2 * r).testBit (k + 1) = r.testBit k := by rw [Nat.testBit_succ]; congr 1; omega
    rw [this]; simp
theorem poly_bit (k : Nat) (h : k < 15) : Nat.testBit 17817 k = gbit (15 - k) := by
  revert k h; decide
theorem top_bit (r : Nat) (h : r < 32768) : r.testBit 14 = decide (r / 16384 = 1) := by
  rw [Nat.testBit_eq_decide_div_mod_eq]
  congr 1
  have : r / 2 ^ 14 % 2 = r / 16384 := by
    rw [show (2 : Nat) ^ 14 = 16384 from rfl]; omega
  rw [this]
theorem V_self (l : List Nat) (i : Nat) (hb : ∀ x ∈ l, x < 2) (hi : i < l.length) : V l i i = decide (l[i] ≠ crcN (l.take i) / 16384) := by
  have hr := crcN_lt (l.take i)
  have h1 : l[i] < 2 := hb _ (List.getElem_mem hi)
  have hg : l.getD i 0 = l[i] := by simp [List.getD, hi]
  simp only [V, Nat.lt_irrefl, if_false, Nat.sub_self, Nat.sub_zero, top_bit _ hr, mb, hg]
  generalize crcN (l.take i) = r at *
  generalize l[i] = x at *
  have : r / 16384 < 2 := by omega
  generalize r / 16384 = y at *
  have hx : x = 0 ∨ x = 1 := by omega
  have hy : y = 0 ∨ y = 1 := by omega
  rcases hx with rfl | rfl <;> rcases hy with rfl | rfl <;> simp
theorem take_snoc' {α : Type} (l : List α) (i : Nat) (h : i < l.length) : l.take (i + 1) = l.take i ++ [l[i]] := by
  rw [List.take_succ_eq_append_getElem h]
theorem V_step (l : List Nat) (i j : Nat) (hb : ∀ x ∈ l, x < 2) (hi : i < l.length) :
    V l (i + 1) j = (V l i j ^^ (V l i i && (decide (i ≤ j ∧ j < i + 16) && gbit (j - i)))) := by
  have hs := V_self l i hb hi
  have hc : crcN (l.take (i + 1)) = stepN (crcN (l.take i)) l[i] := by rw [take_snoc' l i hi, crcN_snoc]
  by_cases h1 : j < i
  · have h2 : j < i + 1 := by omega
    have h3 : ¬ i ≤ j := by omega
    simp [V, h1, h2, h3]
  · by_cases h2 : j = i
    · subst h2
      have hg : gbit 0 = true := by decide
      have hv : V l (j + 1) j = false := by simp [V]
      rw [hv]
      simp [hg]
    · have h3 : ¬ j < i + 1 := by omega
      have h4 : i ≤ j := by omega
      rw [hs]
      by_cases h5 : j < i + 16
      · have h6 : 14 - (j - (i + 1)) < 15 := by omega
        have e1 : (decide (j < i + 1 + 15)) = true := by simp; omega
        have hV1 : V l (i + 1) j = (mb l j ^^ (stepN (crcN (l.take i)) l[i]).testBit (14 - (j - (i + 1)))) := by
          simp only [V, h3, if_false, e1, Bool.true_and, hc]
        have hpg : Nat.testBit 17817 (14 - (j - (i + 1))) = gbit (j - i) := by rw [poly_bit _ h6]; congr 1; omega
        have hV0 : V l i j = (mb l j ^^ ((2 * crcN (l.take i)) % 32768).testBit (14 - (j - (i + 1)))) := by
          rw [dbl_testBit]
          simp only [V, h1, if_false]
          congr 1
          by_cases h7 : j < i + 15
          · have a1 : (14 - (j - (i + 1))) < 15 := h6
            have a2 : 1 ≤ 14 - (j - (i + 1)) := by omega
            have a3 : 14 - (j - (i + 1)) - 1 = 14 - (j - i) := by omega
            simp only [h7, a1, a2, a3, decide_true, Bool.true_and]
          · have a2 : ¬ 1 ≤ 14 - (j - (i + 1)) := by omega
            simp only [h7, a2, decide_false, Bool.and_false, Bool.false_and]
        rw [hV1, hV0]
        unfold stepN
        by_cases h8 : l[i] ≠ crcN (l.take i) / 16384
        · simp only [if_pos h8, Nat.testBit_xor, hpg, h4, h5, decide_true, and_self, Bool.true_and, Bool.xor_assoc]
          simp [h8]
        · simp only [if_neg h8]
          simp [h8]
      · have e2 : (decide (j < i + 15)) = false := by simp; omega
        simp [V, h1, h3, e2, h5]
theorem V_zero (l : List Nat) (j : Nat) : V l 0 j = mb l j := by simp [V, crcN]
theorem V_end (l : List Nat) (k : Nat) (hk : k < 15) : V l l.length (l.length + k) = (crcN l).testBit (14 - k) := by
  have h1 : ¬ l.length + k < l.length := by omega
  have h2 : l.length + k < l.length + 15 := by omega
  have h3 : l.length + k - l.length = k := by omega
  have h4 : l.getD (l.length + k) 0 = 0 := by simp [List.getD]
  simp only [V, h1, if_false, mb, h4, h2, h3, decide_true, Bool.true_and, List.take_length]
  simp
/-- the value of the first k of fifteen bits, the highest first -/
def topv (r k : Nat) : Nat := r / 2 ^ (15 - k)
theorem topv_zero (r : Nat) (h : r < 32768) : topv r 0 = 0 := by unfold topv; exact Nat.div_eq_of_lt h
theorem topv_succ (r k : Nat) (hk : k < 15) : topv r (k + 1) = 2 * topv r k + (r.testBit (14 - k)).toNat := by
  unfold topv
  have e : 15 - k = (14 - k) + 1 := by omega
  have e' : 15 - (k + 1) = 14 - k := by omega
  rw [e, e', Nat.pow_succ, ← Nat.div_div_eq_div_mul, Nat.testBit_eq_decide_div_mod_eq]
  generalize r / 2 ^ (14 - k) = y
  by_cases h : y % 2 = 1
  · simp [h]; omega
  · have : y % 2 = 0 := by omega
    simp [this]; omega
theorem topv_end (r : Nat) : topv r 15 = r := by simp [topv]
theorem topv_le (r k : Nat) (h : r < 32768) : topv r k < 32768 := Nat.lt_of_le_of_lt (Nat.div_le_self _ _) h
end Go.Proofs.Ytihndnclplkleaa.M
