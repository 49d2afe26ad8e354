namespace Go.Proofs.YtpknchjjfiiaeaaGreatDoor.M
/-- the row of equal letters heard last: its letter, its length -/
def hear (r : Nat × Nat) (c : Nat) : Nat × Nat := if c = r.1 then (r.1, r.2 + 1) else (c, 1)
def trail (l : List Nat) : Nat × Nat := l.foldl hear (0, 0)
def stStep (out : List Nat) (c : Nat) : List Nat := if (trail (out ++ [c])).2 = 5 then out ++ [c] ++ [97 - c] else out ++ [c]
def stuffL (l : List Nat) : List Nat := l.foldl stStep []
def isL (c : Nat) : Prop := c = 48 ∨ c = 49
theorem trail_snoc (l : List Nat) (c : Nat) : trail (l ++ [c]) = hear (trail l) c := by simp [trail]
theorem stuffL_snoc (l : List Nat) (c : Nat) : stuffL (l ++ [c]) = stStep (stuffL l) c := by simp [stuffL]
theorem hear_fst (r : Nat × Nat) (c : Nat) : (hear r c).1 = c := by
  unfold hear; split
  · rename_i h; exact h.symm
  · rfl
theorem hear_pos (r : Nat × Nat) (c : Nat) : 1 ≤ (hear r c).2 := by
  unfold hear; split
  · exact Nat.succ_le_succ (Nat.zero_le _)
  · exact Nat.le_refl _
theorem hear_le (r : Nat × Nat) (c : Nat) : (hear r c).2 ≤ r.2 + 1 := by
  unfold hear; split
  · exact Nat.le_refl _
  · exact Nat.succ_le_succ (Nat.zero_le _)
theorem snoc_cases {α : Type} (l : List α) (h : l ≠ []) : ∃ l' a, l = l' ++ [a] := by
  rcases List.eq_nil_or_concat l with e | ⟨a, b, e⟩
  · exact absurd e h
  · exact ⟨a, b, by rw [e, List.concat_eq_append]⟩
theorem snoc_ind {α : Type} {P : List α → Prop} (h0 : P []) (h1 : ∀ l a, P l → P (l ++ [a])) (l : List α) : P l := by
  have : ∀ n, ∀ l : List α, l.length = n → P l := by
    intro n
    induction n with
    | zero => intro l hl; rw [List.length_eq_zero_iff.1 hl]; exact h0
    | succ n ih =>
      intro l hl
      obtain ⟨l', a, rfl⟩ := snoc_cases l (by intro e; simp [e] at hl)
      exact h1 l' a (ih l' (by simpa using hl))
  exact this _ l rfl
theorem trail_le (l : List Nat) : (trail l).2 ≤ l.length := by
  induction l using snoc_ind with
  | h0 => exact Nat.le_refl _
  | h1 l a ih => rw [trail_snoc, List.length_append]; exact Nat.le_trans (hear_le _ _) (by simpa using ih)
theorem hear_same (a m : Nat) : hear (a, m) a = (a, m + 1) := by simp [hear]
theorem hear_other (a m b : Nat) (h : ¬ b = a) : hear (a, m) b = (b, 1) := by simp [hear, h]
theorem trail5 (l : List Nat) (a b c d e : Nat) : (5 ≤ (trail (l ++ [a] ++ [b] ++ [c] ++ [d] ++ [e])).2) ↔ (e = d ∧ d = c ∧ c = b ∧ b = a) := by
  simp only [trail_snoc]
  have h1 := hear_fst (trail l) a
  have h2 := hear_pos (trail l) a
  generalize hear (trail l) a = r at *
  obtain ⟨x, m⟩ := r
  simp only at h1 h2
  subst h1
  by_cases hb : b = x
  · subst hb
    rw [hear_same]
    by_cases hc : c = b
    · subst hc
      rw [hear_same]
      by_cases hd : d = c
      · subst hd
        rw [hear_same]
        by_cases he : e = d
        · subst he
          rw [hear_same]
          simp; omega
        · rw [hear_other _ _ _ he]; simp [he]
      · rw [hear_other _ _ _ hd]
        have := hear_le (d, 1) e
        simp [hd]; simp at this; omega
    · rw [hear_other _ _ _ hc]
      have h3 := hear_le (c, 1) d
      have h4 := hear_le (hear (c, 1) d) e
      simp [hc]; simp at h3; omega
  · rw [hear_other _ _ _ hb]
    have h2 := hear_le (b, 1) c
    have h3 := hear_le (hear (b, 1) c) d
    have h4 := hear_le (hear (hear (b, 1) c) d) e
    simp [hb]; simp at h2; omega
theorem isL_opp {c : Nat} (h : isL c) : isL (97 - c) ∧ ¬ 97 - c = c := by
  rcases h with rfl | rfl
  · exact ⟨.inr rfl, by decide⟩
  · exact ⟨.inl rfl, by decide⟩
/-- the way back from letters: what is left, the place, what is put out, the run -/
def dsGo : List Nat → Nat → List Nat → Nat × Nat → List Nat × Int
  | [], _, out, _ => (out, -1)
  | c :: rest, i, out, r => if r.2 = 5 ∧ c = r.1 then (out, (i : Int)) else dsGo rest (i + 1) (if r.2 = 5 then out else out ++ [c]) (hear r c)
theorem dsGo_bad (c : Nat) (rest : List Nat) (i : Nat) (out : List Nat) (r : Nat × Nat) (h : r.2 = 5) (hc : c = r.1) : dsGo (c :: rest) i out r = (out, (i : Int)) := by
  rw [dsGo, if_pos ⟨h, hc⟩]
theorem dsGo_skip (c : Nat) (rest : List Nat) (i : Nat) (out : List Nat) (r : Nat × Nat) (h : r.2 = 5) (hc : ¬ c = r.1) : dsGo (c :: rest) i out r = dsGo rest (i + 1) out (hear r c) := by
  rw [dsGo, if_neg (fun e => hc e.2), if_pos h]
theorem dsGo_put (c : Nat) (rest : List Nat) (i : Nat) (out : List Nat) (r : Nat × Nat) (h : ¬ r.2 = 5) : dsGo (c :: rest) i out r = dsGo rest (i + 1) (out ++ [c]) (hear r c) := by
  rw [dsGo, if_neg (fun e => h e.1), if_neg h]
/-- where the way back stands behind k letters -/
structure dsAt (l : List Nat) (k : Nat) (out : List Nat) : Prop where
  eq : dsGo (l.drop k) k out (trail (l.take k)) = dsGo l 0 [] (0, 0)
  len : out.length ≤ k
  all : ∀ x ∈ out, isL x
  run : (trail (l.take k)).2 ≤ 5
theorem dsAt.zero (l : List Nat) : dsAt l 0 [] := ⟨rfl, Nat.le_refl _, (fun x hx => by cases hx), (by exact (by decide : 0 ≤ 5))⟩
theorem drop_at (l : List Nat) (k : Nat) (h : k < l.length) : l.drop k = l[k] :: l.drop (k + 1) := List.drop_eq_getElem_cons h
theorem take_at (l : List Nat) (k : Nat) (h : k < l.length) : l.take (k + 1) = l.take k ++ [l[k]] := List.take_succ_eq_append_getElem h
theorem dsAt.bad {l : List Nat} {k : Nat} {out : List Nat} (h : dsAt l k out) (hk : k < l.length) (h5 : (trail (l.take k)).2 = 5) (hc : l[k] = (trail (l.take k)).1) : dsGo l 0 [] (0, 0) = (out, (k : Int)) := by
  rw [← h.eq, drop_at l k hk, dsGo_bad _ _ _ _ _ h5 hc]
theorem dsAt.put {l : List Nat} {k : Nat} {out : List Nat} (h : dsAt l k out) (hk : k < l.length) (h5 : ¬ (trail (l.take k)).2 = 5) (hl : isL l[k]) : dsAt l (k + 1) (out ++ [l[k]]) := by
  refine ⟨?_, by simpa using h.len, ?_, ?_⟩
  · rw [← h.eq, drop_at l k hk, dsGo_put _ _ _ _ _ h5, take_at l k hk, trail_snoc]
  · intro x hx
    simp at hx
    rcases hx with hx | rfl
    · exact h.all x hx
    · exact hl
  · rw [take_at l k hk, trail_snoc]
    have := h.run
    exact Nat.le_trans (hear_le _ _) (by omega)
theorem dsAt.fin {l : List Nat} {k : Nat} {out : List Nat} (h : dsAt l k out) (hk : l.length ≤ k) : dsGo l 0 [] (0, 0) = (out, -1) := by
  rw [← h.eq, List.drop_eq_nil_of_le hk]; rfl
/-- the letters of runs, the first of level c -/
def rtGo : Nat → List Nat → List Nat
  | _, [] => []
  | c, x :: xs => List.replicate x (48 + c) ++ rtGo (1 - c) xs
/-- the way back from runs: level, place, whether a stuff bit is due, what is put out -/
def drGo : List Nat → Nat → Nat → Nat → List Nat → List Nat × Int
  | [], _, _, _, out => (out, -1)
  | x :: xs, c, i, st, out => if 5 < x then (out ++ List.replicate (5 - st) (48 + c), ((i + 5 : Nat) : Int)) else drGo xs (1 - c) (i + x) (x / 5) (out ++ List.replicate (x - st) (48 + c))
theorem ds_run (c : Nat) (rest : List Nat) : ∀ k i out m, 1 ≤ m → m + k ≤ 5 → dsGo (List.replicate k c ++ rest) i out (c, m) = dsGo rest (i + k) (out ++ List.replicate k c) (c, m + k) := by
  intro k
  induction k with
  | zero => intro i out m _ _; simp
  | succ k ih =>
    intro i out m h1 h2
    rw [List.replicate_succ, List.cons_append, dsGo_put _ _ _ _ _ (by show ¬ m = 5; omega), hear_same, ih (i + 1) (out ++ [c]) (m + 1) (by omega) (by omega)]
    rw [show i + 1 + k = i + (k + 1) by omega, show m + 1 + k = m + (k + 1) by omega, List.append_assoc]
    congr 1
theorem ds_over (c : Nat) (rest : List Nat) : ∀ k i out m, 1 ≤ m → m ≤ 5 → 5 < m + k → dsGo (List.replicate k c ++ rest) i out (c, m) = (out ++ List.replicate (5 - m) c, ((i + (5 - m) : Nat) : Int)) := by
  intro k
  induction k with
  | zero => intro i out m h1 h2 h3; omega
  | succ k ih =>
    intro i out m h1 h2 h3
    rw [List.replicate_succ, List.cons_append]
    by_cases h5 : m = 5
    · subst h5
      rw [dsGo_bad c _ i out (c, 5) rfl rfl]
      simp
    · rw [dsGo_put _ _ _ _ _ (by show ¬ m = 5; exact h5), hear_same, ih (i + 1) (out ++ [c]) (m + 1) (by omega) (by omega) (by omega), List.append_assoc]
      rw [show 5 - m = (5 - (m + 1)) + 1 by omega, List.replicate_succ, show i + 1 + (5 - (m + 1)) = i + (5 - (m + 1) + 1) by omega]
      rfl
/-- the first letter of a run, behind another one -/
theorem ds_first (c : Nat) (rest : List Nat) (i : Nat) (out : List Nat) (r : Nat × Nat) (hr : ¬ c = r.1) (st : Nat) (hst : st = if r.2 = 5 then 1 else 0) :
    dsGo (c :: rest) i out r = dsGo rest (i + 1) (out ++ List.replicate (1 - st) c) (c, 1) := by
  have hh : hear r c = (c, 1) := by unfold hear; rw [if_neg hr]
  by_cases h5 : r.2 = 5
  · rw [if_pos h5] at hst
    subst hst
    rw [dsGo_skip _ _ _ _ _ h5 hr, hh]
    simp
  · rw [if_neg h5] at hst
    subst hst
    rw [dsGo_put _ _ _ _ _ h5, hh]
    simp
theorem rep_add (c : Nat) (out : List Nat) (a b : Nat) : out ++ List.replicate a c ++ List.replicate b c = out ++ List.replicate (a + b) c := by
  rw [List.append_assoc, List.replicate_append_replicate]
theorem ds_runs : ∀ (xs : List Nat) (c i st : Nat) (out : List Nat) (r : Nat × Nat), c < 2 → (∀ x ∈ xs, 1 ≤ x) → ¬ 48 + c = r.1 → st = (if r.2 = 5 then 1 else 0) →
    dsGo (rtGo c xs) i out r = drGo xs c i st out := by
  intro xs
  induction xs with
  | nil => intro c i st out r _ _ _ _; rfl
  | cons x xs ih =>
    intro c i st out r hc hx hr hst
    have h1 : 1 ≤ x := hx x (by simp)
    have hs1 : st ≤ 1 := by rw [hst]; split <;> omega
    obtain ⟨y, rfl⟩ : ∃ y, x = y + 1 := ⟨x - 1, by omega⟩
    show dsGo (List.replicate (y + 1) (48 + c) ++ rtGo (1 - c) xs) i out r = _
    rw [List.replicate_succ, List.cons_append, ds_first _ _ _ _ _ hr st hst, drGo]
    by_cases h5 : 5 < y + 1
    · rw [if_pos h5, ds_over _ _ y (i + 1) _ 1 (by omega) (by omega) (by omega), rep_add, show 1 - st + (5 - 1) = 5 - st by omega, show i + 1 + (5 - 1) = i + 5 by omega]
    · rw [if_neg h5, ds_run _ _ y (i + 1) _ 1 (by omega) (by omega), rep_add, show 1 - st + y = y + 1 - st by omega, show i + 1 + y = i + (y + 1) by omega]
      refine ih (1 - c) (i + (y + 1)) ((y + 1) / 5) _ (48 + c, 1 + y) (by omega) (fun z hz => hx z (by simp [hz])) (by show ¬ 48 + (1 - c) = 48 + c; omega) ?_
      show (y + 1) / 5 = if 1 + y = 5 then 1 else 0
      split <;> omega
theorem rt_len : ∀ (xs : List Nat) (c : Nat), (rtGo c xs).length = xs.sum := by
  intro xs
  induction xs with
  | nil => intro c; rfl
  | cons x xs ih => intro c; simp [rtGo, ih]
theorem rt_isL : ∀ (xs : List Nat) (c : Nat), c < 2 → ∀ y ∈ rtGo c xs, isL y := by
  intro xs
  induction xs with
  | nil => intro c _ y hy; cases hy
  | cons x xs ih =>
    intro c hc y hy
    simp only [rtGo, List.mem_append, List.mem_replicate] at hy
    rcases hy with ⟨_, rfl⟩ | hy
    · have : c = 0 ∨ c = 1 := by omega
      rcases this with rfl | rfl
      · exact .inl rfl
      · exact .inr rfl
    · exact ih (1 - c) (by omega) y hy
end Go.Proofs.YtpknchjjfiiaeaaGreatDoor.M
namespace Go.Proofs.YtpknchjjfiiaeaaGreatDoor.J.M
/-- the row of equal letters heard last: its letter, its length -/
def hear (r : Nat × Nat) (c : Nat) : Nat × Nat := if c = r.1 then (r.1, r.2 + 1) else (c, 1)
def trail (l : List Nat) : Nat × Nat := l.foldl hear (0, 0)
def stStep (out : List Nat) (c : Nat) : List Nat := if (trail (out ++ [c])).2 = 5 then out ++ [c] ++ [97 - c] else out ++ [c]
def stuffL (l : List Nat) : List Nat := l.foldl stStep []
def isL (c : Nat) : Prop := c = 48 ∨ c = 49
theorem trail_snoc (l : List Nat) (c : Nat) : trail (l ++ [c]) = hear (trail l) c := by simp [trail]
theorem stuffL_snoc (l : List Nat) (c : Nat) : stuffL (l ++ [c]) = stStep (stuffL l) c := by simp [stuffL]
theorem hear_fst (r : Nat × Nat) (c : Nat) : (hear r c).1 = c := by
  unfold hear; split
  · rename_i h; exact h.symm
  · rfl
theorem hear_pos (r : Nat × Nat) (c : Nat) : 1 ≤ (hear r c).2 := by
  unfold hear; split
  · exact Nat.succ_le_succ (Nat.zero_le _)
  · exact Nat.le_refl _
theorem hear_le (r : Nat × Nat) (c : Nat) : (hear r c).2 ≤ r.2 + 1 := by
  unfold hear; split
  · exact Nat.le_refl _
  · exact Nat.succ_le_succ (Nat.zero_le _)
theorem snoc_cases {α : Type} (l : List α) (h : l ≠ []) : ∃ l' a, l = l' ++ [a] := by
  rcases List.eq_nil_or_concat l with e | ⟨a, b, e⟩
  · exact absurd e h
  · exact ⟨a, b, by rw [e, List.concat_eq_append]⟩
theorem snoc_ind {α : Type} {P : List α → Prop} (h0 : P []) (h1 : ∀ l a, P l → P (l ++ [a])) (l : List α) : P l := by
  have : ∀ n, ∀ l : List α, l.length = n → P l := by
    intro n
    induction n with
    | zero => intro l hl; rw [List.length_eq_zero_iff.1 hl]; exact h0
    | succ n ih =>
      intro l hl
      obtain ⟨l', a, rfl⟩ := snoc_cases l (by intro e; simp [e] at hl)
      exact h1 l' a (ih l' (by simpa using hl))
  exact this _ l rfl
theorem trail_le (l : List Nat) : (trail l).2 ≤ l.length := by
  induction l using snoc_ind with
  | h0 => exact Nat.le_refl _
  | h1 l a ih => rw [trail_snoc, List.length_append]; exact Nat.le_trans (hear_le _ _) (by simpa using ih)
theorem hear_same (a m : Nat) : hear (a, m) a = (a, m + 1) := by simp [hear]
theorem hear_other (a m b : Nat) (h : ¬ b = a) : hear (a, m) b = (b, 1) := by simp [hear, h]
theorem trail5 (l : List Nat) (a b c d e : Nat) : (5 ≤ (trail (l ++ [a] ++ [b] ++ [c] ++ [d] ++ [e])).2) ↔ (e = d ∧ d = c ∧ c = b ∧ b = a) := by
  simp only [trail_snoc]
  have h1 := hear_fst (trail l) a
  have h2 := hear_pos (trail l) a
  generalize hear (trail l) a = r at *
  obtain ⟨x, m⟩ := r
  simp only at h1 h2
  subst h1
  by_cases hb : b = x
  · subst hb
    rw [hear_same]
    by_cases hc : c = b
    · subst hc
      rw [hear_same]
      by_cases hd : d = c
      · subst hd
        rw [hear_same]
        by_cases he : e = d
        · subst he
          rw [hear_same]
          simp; omega
        · rw [hear_other _ _ _ he]; simp [he]
      · rw [hear_other _ _ _ hd]
        have := hear_le (d, 1) e
        simp [hd]; simp at this; omega
    · rw [hear_other _ _ _ hc]
      have h3 := hear_le (c, 1) d
      have h4 := hear_le (hear (c, 1) d) e
      simp [hc]; simp at h3; omega
  · rw [hear_other _ _ _ hb]
    have h2 := hear_le (b, 1) c
    have h3 := hear_le (hear (b, 1) c) d
    have h4 := hear_le (hear (hear (b, 1) c) d) e
    simp [hb]; simp at h2; omega
theorem isL_opp {c : Nat} (h : isL c) : isL (97 - c) ∧ ¬ 97 - c = c := by
  rcases h with rfl | rfl
  · exact ⟨.inr rfl, by decide⟩
  · exact ⟨.inl rfl, by decide⟩
theorem stuff_all (l : List Nat) (h : ∀ x ∈ l, isL x) : ∀ x ∈ stuffL l, isL x := by
  induction l using snoc_ind with
  | h0 => intro x hx; simp [stuffL] at hx
  | h1 l a ih =>
    have ha : isL a := h a (by simp)
    have hl := ih (fun x hx => h x (by simp [hx]))
    rw [stuffL_snoc]
    intro x hx
    unfold stStep at hx
    split at hx
    · simp at hx
      rcases hx with hx | rfl | rfl
      · exact hl x hx
      · exact ha
      · exact (isL_opp ha).1
    · simp at hx
      rcases hx with hx | rfl
      · exact hl x hx
      · exact ha
theorem stuff_run (l : List Nat) (h : ∀ x ∈ l, isL x) : (trail (stuffL l)).2 ≤ 4 := by
  induction l using snoc_ind with
  | h0 => decide
  | h1 l a ih =>
    have ha : isL a := h a (by simp)
    have hl := ih (fun x hx => h x (by simp [hx]))
    rw [stuffL_snoc]
    unfold stStep
    rw [trail_snoc]
    have h1 := hear_le (trail (stuffL l)) a
    split
    · rename_i h5
      rw [trail_snoc, trail_snoc]
      have hf := hear_fst (trail (stuffL l)) a
      generalize hear (trail (stuffL l)) a = r at *
      obtain ⟨x, m⟩ := r
      simp only at hf
      subst hf
      rw [hear_other _ _ _ (isL_opp ha).2]
      exact (by decide : 1 ≤ 4)
    · rw [trail_snoc]; omega
theorem stuff_len (l : List Nat) : (stuffL l).length ≤ 2 * l.length := by
  induction l using snoc_ind with
  | h0 => decide
  | h1 l a ih =>
    rw [stuffL_snoc]; unfold stStep
    split <;> simp <;> omega
/-- one bit into the register of fifteen -/
def stepN (r b : Nat) : Nat := if b ≠ r / 16384 then ((2 * r) % 32768) ^^^ 17817 else (2 * r) % 32768
def crcN (l : List Nat) : Nat := l.foldl stepN 0
theorem stepN_lt (r b : Nat) : stepN r b < 32768 := by
  unfold stepN
  split
  · exact Nat.xor_lt_two_pow (n := 15) (by omega) (by decide)
  · omega
theorem crcN_lt (l : List Nat) : crcN l < 32768 := by
  unfold crcN
  rcases List.eq_nil_or_concat l with rfl | ⟨a, b, rfl⟩
  · decide
  · rw [List.concat_eq_append, List.foldl_append]; exact stepN_lt _ _
theorem crcN_snoc (l : List Nat) (b : Nat) : crcN (l ++ [b]) = stepN (crcN l) b := by
  simp [crcN, List.foldl_append]
def mb (l : List Nat) (j : Nat) : Bool := l.getD j 0 == 1
def gbit (k : Nat) : Bool := Nat.testBit 50585 (15 - k)
/-- what stands at place j of the long division behind i rounds -/
def V (l : List Nat) (i j : Nat) : Bool := if j < i then false else mb l j ^^ (decide (j < i + 15) && (crcN (l.take i)).testBit (14 - (j - i)))
theorem dbl_testBit (r k : Nat) : ((2 * r) % 32768).testBit k = (decide (k < 15) && decide (1 ≤ k) && r.testBit (k - 1)) := by
  rw [show (32768 : Nat) = 2 ^ 15 from rfl, Nat.testBit_mod_two_pow]
  cases k with
  | zero => simp [Nat.testBit_zero]
  | succ k =>
    have : (2 * r).testBit (k + 1) = r.testBit k := by rw [Nat.testBit_succ]; congr 1; omega
    rw [this]; simp
theorem poly_bit (k : Nat) (h : k < 15) : Nat.testBit 17817 k = gbit (15 - k) := by
  revert k h; decide
theorem top_bit (r : Nat) (h : r < 32768) : r.testBit 14 = decide (r / 16384 = 1) := by
  rw [Nat.testBit_eq_decide_div_mod_eq]
  congr 1
  have : r / 2 ^ 14 % 2 = r / 16384 := by
    rw [show (2 : Nat) ^ 14 = 16384 from rfl]; omega
  rw [this]
theorem V_self (l : List Nat) (i : Nat) (hb : ∀ x ∈ l, x < 2) (hi : i < l.length) : V l i i = decide (l[i] ≠ crcN (l.take i) / 16384) := by
  have hr := crcN_lt (l.take i)
  have h1 : l[i] < 2 := hb _ (List.getElem_mem hi)
  have hg : l.getD i 0 = l[i] := by simp [List.getD, hi]
  simp only [V, Nat.lt_irrefl, if_false, Nat.sub_self, Nat.sub_zero, top_bit _ hr, mb, hg]
  generalize crcN (l.take i) = r at *
  generalize l[i] = x at *
  have : r / 16384 < 2 := by omega
  generalize r / 16384 = y at *
  have hx : x = 0 ∨ x = 1 := by omega
  have hy : y = 0 ∨ y = 1 := by omega
  rcases hx with rfl | rfl <;> rcases hy with rfl | rfl <;> simp
theorem take_snoc' {α : Type} (l : List α) (i : Nat) (h : i < l.length) : l.take (i + 1) = l.take i ++ [l[i]] := by
  rw [List.take_succ_eq_append_getElem h]
theorem V_step (l : List Nat) (i j : Nat) (hb : ∀ x ∈ l, x < 2) (hi : i < l.length) :
    V l (i + 1) j = (V l i j ^^ (V l i i && (decide (i ≤ j ∧ j < i + 16) && gbit (j - i)))) := by
  have hs := V_self l i hb hi
  have hc : crcN (l.take (i + 1)) = stepN (crcN (l.take i)) l[i] := by rw [take_snoc' l i hi, crcN_snoc]
  by_cases h1 : j < i
  · have h2 : j < i + 1 := by omega
    have h3 : ¬ i ≤ j := by omega
    simp [V, h1, h2, h3]
  · by_cases h2 : j = i
    · subst h2
      have hg : gbit 0 = true := by decide
      have hv : V l (j + 1) j = false := by simp [V]
      rw [hv]
      simp [hg]
    · have h3 : ¬ j < i + 1 := by omega
      have h4 : i ≤ j := by omega
      rw [hs]
      by_cases h5 : j < i + 16
      · have h6 : 14 - (j - (i + 1)) < 15 := by omega
        have e1 : (decide (j < i + 1 + 15)) = true := by simp; omega
        have hV1 : V l (i + 1) j = (mb l j ^^ (stepN (crcN (l.take i)) l[i]).testBit (14 - (j - (i + 1)))) := by
          simp only [V, h3, if_false, e1, Bool.true_and, hc]
        have hpg : Nat.testBit 17817 (14 - (j - (i + 1))) = gbit (j - i) := by rw [poly_bit _ h6]; congr 1; omega
        have hV0 : V l i j = (mb l j ^^ ((2 * crcN (l.take i)) % 32768).testBit (14 - (j - (i + 1)))) := by
          rw [dbl_testBit]
          simp only [V, h1, if_false]
          congr 1
          by_cases h7 : j < i + 15
          · have a1 : (14 - (j - (i + 1))) < 15 := h6
            have a2 : 1 ≤ 14 - (j - (i + 1)) := by omega
            have a3 : 14 - (j - (i + 1)) - 1 = 14 - (j - i) := by omega
            simp only [h7, a1, a2, a3, decide_true, Bool.true_and]
          · have a2 : ¬ 1 ≤ 14 - (j - (i + 1)) := by omega
            simp only [h7, a2, decide_false, Bool.and_false, Bool.false_and]
        rw [hV1, hV0]
        unfold stepN
        by_cases h8 : l[i] ≠ crcN (l.take i) / 16384
        · simp only [if_pos h8, Nat.testBit_xor, hpg, h4, h5, decide_true, and_self, Bool.true_and, Bool.xor_assoc]
          simp [h8]
        · simp only [if_neg h8]
          simp [h8]
      · have e2 : (decide (j < i + 15)) = false := by simp; omega
        simp [V, h1, h3, e2, h5]
theorem V_zero (l : List Nat) (j : Nat) : V l 0 j = mb l j := by simp [V, crcN]
theorem V_end (l : List Nat) (k : Nat) (hk : k < 15) : V l l.length (l.length + k) = (crcN l).testBit (14 - k) := by
  have h1 : ¬ l.length + k < l.length := by omega
  have h2 : l.length + k < l.length + 15 := by omega
  have h3 : l.length + k - l.length = k := by omega
  have h4 : l.getD (l.length + k) 0 = 0 := by simp [List.getD]
  simp only [V, h1, if_false, mb, h4, h2, h3, decide_true, Bool.true_and, List.take_length]
  simp
/-- the value of the first k of fifteen bits, the highest first -/
def topv (r k : Nat) : Nat := r / 2 ^ (15 - k)
theorem topv_zero (r : Nat) (h : r < 32768) : topv r 0 = 0 := by unfold topv; exact Nat.div_eq_of_lt h
theorem topv_succ (r k : Nat) (hk : k < 15) : topv r (k + 1) = 2 * topv r k + (r.testBit (14 - k)).toNat := by
  unfold topv
  have e : 15 - k = (14 - k) + 1 := by omega
  have e' : 15 - (k + 1) = 14 - k := by omega
  rw [e, e', Nat.pow_succ, ← Nat.div_div_eq_div_mul, Nat.testBit_eq_decide_div_mod_eq]
  generalize r / 2 ^ (14 - k) = y
  by_cases h : y % 2 = 1
  · simp [h]; omega
  · have : y % 2 = 0 := by omega
    simp [this]; omega
theorem topv_end (r : Nat) : topv r 15 = r := by simp [topv]
theorem topv_le (r k : Nat) (h : r < 32768) : topv r k < 32768 := Nat.lt_of_le_of_lt (Nat.div_le_self _ _) h
end Go.Proofs.YtpknchjjfiiaeaaGreatDoor.J.M
namespace Go.Proofs.YtpknchjjfiiaeaaGreatDoor.M
/-- one bit into the register of fifteen -/
def stepN (r b : Nat) : Nat := if b ≠ r / 16384 then ((2 * r) % 32768) ^^^ 17817 else (2 * r) % 32768
def crcN (l : List Nat) : Nat := l.foldl stepN 0
theorem stepN_lt (r b : Nat) : stepN r b < 32768 := by
  unfold stepN
  split
  · exact Nat.xor_lt_two_pow (n := 15) (by omega) (by decide)
  · omega
theorem crcN_lt (l : List Nat) : crcN l < 32768 := by
  unfold crcN
  rcases List.eq_nil_or_concat l with rfl | ⟨a, b, rfl⟩
  · decide
  · rw [List.concat_eq_append, List.foldl_append]; exact stepN_lt _ _
theorem crcN_snoc (l : List Nat) (b : Nat) : crcN (l ++ [b]) = stepN (crcN l) b := by
  simp [crcN, List.foldl_append]
def mb (l : List Nat) (j : Nat) : Bool := l.getD j 0 == 1
def gbit (k : Nat) : Bool := Nat.testBit 50585 (15 - k)
/-- what stands at place j of the long division behind i rounds -/
def V (l : List Nat) (i j : Nat) : Bool := if j < i then false else mb l j ^^ (decide (j < i + 15) && (crcN (l.take i)).testBit (14 - (j - i)))
theorem dbl_testBit (r k : Nat) : ((2 * r) % 32768).testBit k = (decide (k < 15) && decide (1 ≤ k) && r.testBit (k - 1)) := by
  rw [show (32768 : Nat) = 2 ^ 15 from rfl, Nat.testBit_mod_two_pow]
  cases k with
  | zero => simp [Nat.testBit_zero]
  | succ k =>
    have : (2 * r).testBit (k + 1) = r.testBit k := by rw [Nat.testBit_succ]; congr 1; omega
    rw [this]; simp
theorem poly_bit (k : Nat) (h : k < 15) : Nat.testBit 17817 k = gbit (15 - k) := by
  revert k h; decide
theorem top_bit (r : Nat) (h : r < 32768) : r.testBit 14 = decide (r / 16384 = 1) := by
  rw [Nat.testBit_eq_decide_div_mod_eq]
  congr 1
  have : r / 2 ^ 14 % 2 = r / 16384 := by
    rw [show (2 : Nat) ^ 14 = 16384 from rfl]; omega
  rw [this]
theorem V_self (l : List Nat) (i : Nat) (hb : ∀ x ∈ l, x < 2) (hi : i < l.length) : V l i i = decide (l[i] ≠ crcN (l.take i) / 16384) := by
  have hr := crcN_lt (l.take i)
  have h1 : l[i] < 2 := hb _ (List.getElem_mem hi)
  have hg : l.getD i 0 = l[i] := by simp [List.getD, hi]
  simp only [V, Nat.lt_irrefl, if_false, Nat.sub_self, Nat.sub_zero, top_bit _ hr, mb, hg]
  generalize crcN (l.take i) = r at *
  generalize l[i] = x at *
  have : r / 16384 < 2 := by omega
  generalize r / 16384 = y at *
  have hx : x = 0 ∨ x = 1 := by omega
  have hy : y = 0 ∨ y = 1 := by omega
  rcases hx with rfl | rfl <;> rcases hy with rfl | rfl <;> simp
theorem take_snoc' {α : Type} (l : List α) (i : Nat) (h : i < l.length) : l.take (i + 1) = l.take i ++ [l[i]] := by
  rw [List.take_succ_eq_append_getElem h]
theorem V_step (l : List Nat) (i j : Nat) (hb : ∀ x ∈ l, x < 2) (hi : i < l.length) :
    V l (i + 1) j = (V l i j ^^ (V l i i && (decide (i ≤ j ∧ j < i + 16) && gbit (j - i)))) := by
  have hs := V_self l i hb hi
  have hc : crcN (l.take (i + 1)) = stepN (crcN (l.take i)) l[i] := by rw [take_snoc' l i hi, crcN_snoc]
  by_cases h1 : j < i
  · have h2 : j < i + 1 := by omega
    have h3 : ¬ i ≤ j := by omega
    simp [V, h1, h2, h3]
  · by_cases h2 : j = i
    · subst h2
      have hg : gbit 0 = true := by decide
      have hv : V l (j + 1) j = false := by simp [V]
      rw [hv]
      simp [hg]
    · have h3 : ¬ j < i + 1 := by omega
      have h4 : i ≤ j := by omega
      rw [hs]
      by_cases h5 : j < i + 16
      · have h6 : 14 - (j - (i + 1)) < 15 := by omega
        have e1 : (decide (j < i + 1 + 15)) = true := by simp; omega
        have hV1 : V l (i + 1) j = (mb l j ^^ (stepN (crcN (l.take i)) l[i]).testBit (14 - (j - (i + 1)))) := by
          simp only [V, h3, if_false, e1, Bool.true_and, hc]
        have hpg : Nat.testBit 17817 (14 - (j - (i + 1))) = gbit (j - i) := by rw [poly_bit _ h6]; congr 1; omega
        have hV0 : V l i j = (mb l j ^^ ((2 * crcN (l.take i)) % 32768).testBit (14 - (j - (i + 1)))) := by
          rw [dbl_testBit]
          simp only [V, h1, if_false]
          congr 1
          by_cases h7 : j < i + 15
          · have a1 : (14 - (j - (i + 1))) < 15 := h6
            have a2 : 1 ≤ 14 - (j - (i + 1)) := by omega
            have a3 : 14 - (j - (i + 1)) - 1 = 14 - (j - i) := by omega
            simp only [h7, a1, a2, a3, decide_true, Bool.true_and]
          · have a2 : ¬ 1 ≤ 14 - (j - (i + 1)) := by omega
            simp only [h7, a2, decide_false, Bool.and_false, Bool.false_and]
        rw [hV1, hV0]
        unfold stepN
        by_cases h8 : l[i] ≠ crcN (l.take i) / 16384
        · simp only [if_pos h8, Nat.testBit_xor, hpg, h4, h5, decide_true, and_self, Bool.true_and, Bool.xor_assoc]
          simp [h8]
        · simp only [if_neg h8]
          simp [h8]
      · have e2 : (decide (j < i + 15)) = false := by simp; omega
        simp [V, h1, h3, e2, h5]
theorem V_zero (l : List Nat) (j : Nat) : V l 0 j = mb l j := by simp [V, crcN]
theorem V_end (l : List Nat) (k : Nat) (hk : k < 15) : V l l.length (l.length + k) = (crcN l).testBit (14 - k) := by
  have h1 : ¬ l.length + k < l.length := by omega
  have h2 : l.length + k < l.length + 15 := by omega
  have h3 : l.length + k - l.length = k := by omega
  have h4 : l.getD (l.length + k) 0 = 0 := by simp [List.getD]
  simp only [V, h1, if_false, mb, h4, h2, h3, decide_true, Bool.true_and, List.take_length]
  simp
/-- the value of the first k of fifteen bits, the highest first -/
def topv (r k : Nat) : Nat := r / 2 ^ (15 - k)
theorem topv_zero (r : Nat) (h : r < 32768) : topv r 0 = 0 := by unfold topv; exact Nat.div_eq_of_lt h
theorem topv_succ (r k : Nat) (hk : k < 15) : topv r (k + 1) = 2 * topv r k + (r.testBit (14 - k)).toNat := by
  unfold topv
  have e : 15 - k = (14 - k) + 1 := by omega
  have e' : 15 - (k + 1) = 14 - k := by omega
  rw [e, e', Nat.pow_succ, ← Nat.div_div_eq_div_mul, Nat.testBit_eq_decide_div_mod_eq]
  generalize r / 2 ^ (14 - k) = y
  by_cases h : y % 2 = 1
  · simp [h]; omega
  · have : y % 2 = 0 := by omega
    simp [this]; omega
theorem topv_end (r : Nat) : topv r 15 = r := by simp [topv]
theorem topv_le (r k : Nat) (h : r < 32768) : topv r k < 32768 := Nat.lt_of_le_of_lt (Nat.div_le_self _ _) h
set_option linter.unusedVariables false
theorem dbl_xor (r s : Nat) : (2 * (r ^^^ s)) % 32768 = ((2 * r) % 32768) ^^^ ((2 * s) % 32768) := by
  have e : 2 * (r ^^^ s) = (2 * r) ^^^ (2 * s) := by
    apply Nat.eq_of_testBit_eq
    intro i
    cases i with
    | zero => simp
    | succ i => rw [Nat.testBit_xor, Nat.testBit_succ, Nat.testBit_succ, Nat.testBit_succ]; simp [Nat.testBit_xor]
  rw [e]
  exact Nat.xor_mod_two_pow (n := 15)
theorem top_xor (r s : Nat) (hr : r < 32768) (hs : s < 32768) : (r ^^^ s) / 16384 = (r / 16384 + s / 16384) % 2 := by
  have h1 : (r ^^^ s) / 16384 = (r / 16384) ^^^ (s / 16384) := by
    rw [show (16384 : Nat) = 2 ^ 14 from rfl, ← Nat.shiftRight_eq_div_pow, ← Nat.shiftRight_eq_div_pow, ← Nat.shiftRight_eq_div_pow, Nat.shiftRight_xor_distrib]
  rw [h1]
  have ht : r / 16384 = 0 ∨ r / 16384 = 1 := by omega
  have hu : s / 16384 = 0 ∨ s / 16384 = 1 := by omega
  rcases ht with h | h <;> rcases hu with h' | h' <;> rw [h, h'] <;> rfl
theorem stepN_lin (r s b : Nat) (hr : r < 32768) (hs : s < 32768) (hb : b < 2) : stepN (r ^^^ s) b = stepN r b ^^^ stepN s 0 := by
  have ht : r / 16384 = 0 ∨ r / 16384 = 1 := by omega
  have hu : s / 16384 = 0 ∨ s / 16384 = 1 := by omega
  have hx := top_xor r s hr hs
  have hd := dbl_xor r s
  have c1 : ∀ x y : Nat, x ^^^ 17817 ^^^ (y ^^^ 17817) = x ^^^ y := fun x y => by
    rw [Nat.xor_comm y, ← Nat.xor_assoc, Nat.xor_assoc x, Nat.xor_self, Nat.xor_zero]
  have c2 : ∀ x y : Nat, x ^^^ 17817 ^^^ y = x ^^^ y ^^^ 17817 := fun x y => by rw [Nat.xor_assoc, Nat.xor_comm 17817, Nat.xor_assoc]
  have c3 : ∀ x y : Nat, x ^^^ (y ^^^ 17817) = x ^^^ y ^^^ 17817 := fun x y => by rw [Nat.xor_assoc]
  unfold stepN
  rw [hx, hd]
  rcases (show b = 0 ∨ b = 1 by omega) with rfl | rfl <;> rcases ht with h | h <;> rcases hu with h' | h' <;> rw [h, h'] <;> simp [c1, c2, c3]
/-- eight bits into the register, the highest of them first -/
def oct (o : Nat) : List Nat := [o / 128 % 2, o / 64 % 2, o / 32 % 2, o / 16 % 2, o / 8 % 2, o / 4 % 2, o / 2 % 2, o % 2]
def S8 (r o : Nat) : Nat := (oct o).foldl stepN r
def tabN (k : Nat) : Nat := S8 (128 * k) 0
theorem foldN_lt (bs : List Nat) : ∀ r, r < 32768 → bs.foldl stepN r < 32768 := by
  induction bs with
  | nil => intro r h; exact h
  | cons b bs ih => intro r h; exact ih _ (stepN_lt _ _)
theorem foldN_lin (bs : List Nat) (hb : ∀ x ∈ bs, x < 2) : ∀ r s, r < 32768 → s < 32768 → bs.foldl stepN (r ^^^ s) = bs.foldl stepN r ^^^ (bs.map fun _ => 0).foldl stepN s := by
  induction bs with
  | nil => intro r s _ _; rfl
  | cons b bs ih =>
    intro r s hr hs
    show bs.foldl stepN (stepN (r ^^^ s) b) = _
    rw [stepN_lin r s b hr hs (hb b (by simp))]
    exact ih (fun x hx => hb x (by simp [hx])) _ _ (stepN_lt _ _) (stepN_lt _ _)
theorem oct_bits (o : Nat) : ∀ x ∈ oct o, x < 2 := by
  intro x hx
  simp only [oct, List.mem_cons, List.not_mem_nil, or_false] at hx
  omega
theorem S8_lt (r o : Nat) (h : r < 32768) : S8 r o < 32768 := foldN_lt _ _ h
theorem S8_lin (r s o : Nat) (hr : r < 32768) (hs : s < 32768) : S8 (r ^^^ s) o = S8 r o ^^^ S8 s 0 := foldN_lin (oct o) (oct_bits o) r s hr hs
set_option maxRecDepth 100000 in
theorem S8_zero : ∀ o, o < 256 → S8 0 o = tabN o := by decide
set_option maxRecDepth 100000 in
theorem S8_low : ∀ l, l < 128 → S8 l 0 = 256 * l := by decide
set_option maxRecDepth 100000 in
theorem tab_lt (k : Nat) (h : k < 256) : tabN k < 32768 := S8_lt _ _ (by omega)
theorem mul_xor (a b : Nat) : 128 * (a ^^^ b) = (128 * a) ^^^ (128 * b) := by
  have e : ∀ x : Nat, 128 * x = x <<< 7 := fun x => by rw [Nat.shiftLeft_eq]; omega
  rw [e, e, e, Nat.shiftLeft_xor_distrib]
theorem tab_xor (h o : Nat) (hh : h < 256) (ho : o < 256) : tabN (h ^^^ o) = tabN h ^^^ tabN o := by
  unfold tabN
  rw [mul_xor]
  exact S8_lin (128 * h) (128 * o) 0 (by omega) (by omega)
theorem split_xor (r : Nat) : r = (128 * (r / 128)) ^^^ (r % 128) := by
  have h := Nat.two_pow_add_eq_or_of_lt (i := 7) (b := r % 128) (by omega) (r / 128)
  have h2 : 2 ^ 7 * (r / 128) ||| r % 128 = (2 ^ 7 * (r / 128)) ^^^ (r % 128) := by
    apply Nat.eq_of_testBit_eq
    intro i
    rw [Nat.testBit_or, Nat.testBit_xor]
    by_cases hi : i < 7
    · have : (2 ^ 7 * (r / 128)).testBit i = false := by
        rw [Nat.testBit_two_pow_mul]; simp; omega
      rw [this]; simp
    · have : (r % 128).testBit i = false := by
        rw [show (128 : Nat) = 2 ^ 7 from rfl, Nat.testBit_mod_two_pow]; simp; omega
      rw [this]; simp
  have h3 : 2 ^ 7 * (r / 128) + r % 128 = r := by omega
  rw [h3, h2] at h
  exact h
theorem S8_tab (r o : Nat) (hr : r < 32768) (ho : o < 256) : S8 r o = (r * 256 % 32768) ^^^ tabN ((r / 128) ^^^ o) := by
  have e0 : S8 r o = S8 0 o ^^^ S8 r 0 := by
    have := S8_lin 0 r o (by decide) hr
    rw [Nat.zero_xor] at this
    exact this
  have e1 : S8 r 0 = tabN (r / 128) ^^^ 256 * (r % 128) := by
    have h1 := S8_lin (128 * (r / 128)) (r % 128) 0 (by omega) (by omega)
    rw [← split_xor r, S8_low (r % 128) (by omega)] at h1
    exact h1
  have e2 : r * 256 % 32768 = 256 * (r % 128) := by omega
  rw [e0, e1, e2, S8_zero o ho, tab_xor _ _ (by omega) ho, Nat.xor_comm, Nat.xor_comm (tabN (r / 128)) (256 * (r % 128)), Nat.xor_assoc]
/-- the register that the table's filling has at the power j -/
def regN : Nat → Nat
  | 0 => 16384
  | j + 1 => stepN (regN j) 0
theorem regN_lt (j : Nat) : regN j < 32768 := by
  cases j with
  | zero => decide
  | succ j => exact stepN_lt _ _
set_option maxRecDepth 100000 in
theorem tab_fill : ∀ j, j < 8 → ∀ rest, rest < 128 → rest < 2 ^ j → tabN (2 ^ j ||| rest) = regN (j + 1) ^^^ tabN rest := by decide
theorem tab_zero : tabN 0 = 0 := by decide
end Go.Proofs.YtpknchjjfiiaeaaGreatDoor.M
