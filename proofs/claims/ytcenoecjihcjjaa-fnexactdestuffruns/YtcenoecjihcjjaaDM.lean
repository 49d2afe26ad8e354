namespace Go.Proofs.Ytcenoecjihcjjaa.M

/-- the row of equal letters heard last: its letter, its length -/
def hear (r : Nat × Nat) (c : Nat) : Nat × Nat := if c = r.1 then (r.1, r.2 + 1) else (c, 1)
def trail (l : List Nat) : Nat × Nat := l.foldl hear (0, 0)
def stStep (out : List Nat) (c : Nat) : List Nat := if (trail (out ++ [c])).2 = 5 then out ++ [c] ++ [97 - c] else out ++ [c]
def stuffL (l : List Nat) : List Nat := l.foldl stStep []
def isL (c : Nat) : Prop := c = 48 ∨ c = 49

theorem trail_snoc (l : List Nat) (c : Nat) : trail (l ++ [c]) = hear (trail l) c := by simp [trail]
theorem stuffL_snoc (l : List Nat) (c : Nat) : stuffL (l ++ [c]) = stStep (stuffL l) c := by simp [stuffL]
theorem hear_fst (r : Nat × Nat) (c : Nat) : (hear r c).1 = c := by
  unfold hear; split
  · rename_i h; exact h.symm
  · rfl
theorem hear_pos (r : Nat × Nat) (c : Nat) : 1 ≤ (hear r c).2 := by
  unfold hear; split
  · exact Nat.succ_le_succ (Nat.zero_le _)
  · exact Nat.le_refl _
theorem hear_le (r : Nat × Nat) (c : Nat) : (hear r c).2 ≤ r.2 + 1 := by
  unfold hear; split
  · exact Nat.le_refl _
  · exact Nat.succ_le_succ (Nat.zero_le _)
theorem snoc_cases {α : Type} (l : List α) (h : l ≠ []) : ∃ l' a, l = l' ++ [a] := by
  rcases List.eq_nil_or_concat l with e | ⟨a, b, e⟩
  · exact absurd e h
  · exact ⟨a, b, by rw [e, List.concat_eq_append]⟩
theorem snoc_ind {α : Type} {P : List α → Prop} (h0 : P []) (h1 : ∀ l a, P l → P (l ++ [a])) (l : List α) : P l := by
  have : ∀ n, ∀ l : List α, l.length = n → P l := by
    intro n
    induction n with
    | zero => intro l hl; rw [List.length_eq_zero_iff.1 hl]; exact h0
    | succ n ih =>
      intro l hl
      obtain ⟨l', a, rfl⟩ := snoc_cases l (by intro e; simp [e] at hl)
      exact h1 l' a (ih l' (by simpa using hl))
  exact this _ l rfl
theorem trail_le (l : List Nat) : (trail l).2 ≤ l.length := by
  induction l using snoc_ind with
  | h0 => exact Nat.le_refl _
  | h1 l a ih => rw [trail_snoc, List.length_append]; exact Nat.le_trans (hear_le _ _) (by simpa using ih)
theorem hear_same (a m : Nat) : hear (a, m) a = (a, m + 1) := by simp [hear]
theorem hear_other (a m b : Nat) (h : ¬ b = a) : hear (a, m) b = (b, 1) := by simp [hear, h]

theorem trail5 (l : List Nat) (a b c d e : Nat) : (5 ≤ (trail (l ++ [a] ++ [b] ++ [c] ++ [d] ++ [e])).2) ↔ (e = d ∧ d = c ∧ c = b ∧ b = a) := by
  simp only [trail_snoc]
  have h1 := hear_fst (trail l) a
  have h2 := hear_pos (trail l) a
  generalize hear (trail l) a = r at *
  obtain ⟨x, m⟩ := r
  simp only at h1 h2
  subst h1
  by_cases hb : b = x
  · subst hb
    rw [hear_same]
    by_cases hc : c = b
    · subst hc
      rw [hear_same]
      by_cases hd : d = c
      · subst hd
        rw [hear_same]
        by_cases he : e = d
        · subst he
          rw [hear_same]
          simp; omega
        · rw [hear_other _ _ _ he]; simp [he]
      · rw [hear_other _ _ _ hd]
        have := hear_le (d, 1) e
        simp [hd]; simp at this; omega
    · rw [hear_other _ _ _ hc]
      have h3 := hear_le (c, 1) d
      have h4 := hear_le (hear (c, 1) d) e
      simp [hc]; simp at h3; omega
  · rw [hear_other _ _ _ hb]
    have h2 := hear_le (b, 1) c
    have h3 := hear_le (hear (b, 1) c) d
    have h4 := hear_le (hear (hear (b, 1) c) d) e
    simp [hb]; simp at h2; omega

theorem isL_opp {c : Nat} (h : isL c) : isL (97 - c) ∧ ¬ 97 - c = c := by
  rcases h with rfl | rfl
  · exact ⟨.inr rfl, by decide⟩
  · exact ⟨.inl rfl, by decide⟩
/-- the way back from letters: what is left, the place, what is put out, the run -/
def dsGo : List Nat → Nat → List Nat → Nat × Nat → List Nat × Int
  | [], _, out, _ => (out, -1)
  | c :: rest, i, out, r => if r.2 = 5 ∧ c = r.1 then (out, (i : Int)) else dsGo rest (i + 1) (if r.2 = 5 then out else out ++ [c]) (hear r c)
theorem dsGo_bad (c : Nat) (rest : List Nat) (i : Nat) (out : List Nat) (r : Nat × Nat) (h : r.2 = 5) (hc : c = r.1) : dsGo (c :: rest) i out r = (out, (i : Int)) := by
  rw [dsGo, if_pos ⟨h, hc⟩]
theorem dsGo_skip (c : Nat) (rest : List Nat) (i : Nat) (out : List Nat) (r : Nat × Nat) (h : r.2 = 5) (hc : ¬ c = r.1) : dsGo (c :: rest) i out r = dsGo rest (i + 1) out (hear r c) := by
  rw [dsGo, if_neg (fun e => hc e.2), if_pos h]
theorem dsGo_put (c : Nat) (rest : List Nat) (i : Nat) (out : List Nat) (r : Nat × Nat) (h : ¬ r.2 = 5) : dsGo (c :: rest) i out r = dsGo rest (i + 1) (out ++ [c]) (hear r c) := by
  rw [dsGo, if_neg (fun e => h e.1), if_neg h]
/-- where the way back stands behind k letters -/
structure dsAt (l : List Nat) (k : Nat) (out : List Nat) : Prop where
  eq : dsGo (l.drop k) k out (trail (l.take k)) = dsGo l 0 [] (0, 0)
  len : out.length ≤ k
  all : ∀ x ∈ out, isL x
  run : (trail (l.take k)).2 ≤ 5
theorem dsAt.zero (l : List Nat) : dsAt l 0 [] := ⟨rfl, Nat.le_refl _, (fun x hx => by cases hx), (by exact (by decide : 0 ≤ 5))⟩
theorem drop_at (l : List Nat) (k : Nat) (h : k < l.length) : l.drop k = l[k] :: l.drop (k + 1) := List.drop_eq_getElem_cons h
theorem take_at (l : List Nat) (k : Nat) (h : k < l.length) : l.take (k + 1) = l.take k ++ [l[k]] := List.take_succ_eq_append_getElem h
theorem dsAt.bad {l : List Nat} {k : Nat} {out : List Nat} (h : dsAt l k out) (hk : k < l.length) (h5 : (trail (l.take k)).2 = 5) (hc : l[k] = (trail (l.take k)).1) : dsGo l 0 [] (0, 0) = (out, (k : Int)) := by
  rw [← h.eq, drop_at l k hk, dsGo_bad _ _ _ _ _ h5 hc]
theorem dsAt.skip {l : List Nat} {k : Nat} {out : List Nat} (h : dsAt l k out) (hk : k < l.length) (h5 : (trail (l.take k)).2 = 5) (hc : ¬ l[k] = (trail (l.take k)).1) : dsAt l (k + 1) out := by
  refine ⟨?_, Nat.le_succ_of_le h.len, h.all, ?_⟩
  · rw [← h.eq, drop_at l k hk, dsGo_skip _ _ _ _ _ h5 hc, take_at l k hk, trail_snoc]
  · rw [take_at l k hk, trail_snoc, hear, if_neg hc]; exact (by decide : 1 ≤ 5)
theorem dsAt.put {l : List Nat} {k : Nat} {out : List Nat} (h : dsAt l k out) (hk : k < l.length) (h5 : ¬ (trail (l.take k)).2 = 5) (hl : isL l[k]) : dsAt l (k + 1) (out ++ [l[k]]) := by
  refine ⟨?_, by simpa using h.len, ?_, ?_⟩
  · rw [← h.eq, drop_at l k hk, dsGo_put _ _ _ _ _ h5, take_at l k hk, trail_snoc]
  · intro x hx
    simp at hx
    rcases hx with hx | rfl
    · exact h.all x hx
    · exact hl
  · rw [take_at l k hk, trail_snoc]
    have := h.run
    exact Nat.le_trans (hear_le _ _) (by omega)
theorem dsAt.fin {l : List Nat} {k : Nat} {out : List Nat} (h : dsAt l k out) (hk : l.length ≤ k) : dsGo l 0 [] (0, 0) = (out, -1) := by
  rw [← h.eq, List.drop_eq_nil_of_le hk]; rfl
/-- the letter of the run is the letter before -/
theorem trail_last (l : List Nat) (k : Nat) (h : k < l.length) : (trail (l.take (k + 1))).1 = l[k] := by
  rw [take_at l k h, trail_snoc, hear_fst]

/-- the letters of runs, the first of level c -/
def rtGo : Nat → List Nat → List Nat
  | _, [] => []
  | c, x :: xs => List.replicate x (48 + c) ++ rtGo (1 - c) xs
/-- the way back from runs: level, place, whether a stuff bit is due, what is put out -/
def drGo : List Nat → Nat → Nat → Nat → List Nat → List Nat × Int
  | [], _, _, _, out => (out, -1)
  | x :: xs, c, i, st, out => if 5 < x then (out ++ List.replicate (5 - st) (48 + c), ((i + 5 : Nat) : Int)) else drGo xs (1 - c) (i + x) (x / 5) (out ++ List.replicate (x - st) (48 + c))
theorem ds_run (c : Nat) (rest : List Nat) : ∀ k i out m, 1 ≤ m → m + k ≤ 5 → dsGo (List.replicate k c ++ rest) i out (c, m) = dsGo rest (i + k) (out ++ List.replicate k c) (c, m + k) := by
  intro k
  induction k with
  | zero => intro i out m _ _; simp
  | succ k ih =>
    intro i out m h1 h2
    rw [List.replicate_succ, List.cons_append, dsGo_put _ _ _ _ _ (by show ¬ m = 5; omega), hear_same, ih (i + 1) (out ++ [c]) (m + 1) (by omega) (by omega)]
    rw [show i + 1 + k = i + (k + 1) by omega, show m + 1 + k = m + (k + 1) by omega, List.append_assoc]
    congr 1
theorem ds_over (c : Nat) (rest : List Nat) : ∀ k i out m, 1 ≤ m → m ≤ 5 → 5 < m + k → dsGo (List.replicate k c ++ rest) i out (c, m) = (out ++ List.replicate (5 - m) c, ((i + (5 - m) : Nat) : Int)) := by
  intro k
  induction k with
  | zero => intro i out m h1 h2 h3; omega
  | succ k ih =>
    intro i out m h1 h2 h3
    rw [List.replicate_succ, List.cons_append]
    by_cases h5 : m = 5
    · subst h5
      rw [dsGo_bad c _ i out (c, 5) rfl rfl]
      simp
    · rw [dsGo_put _ _ _ _ _ (by show ¬ m = 5; exact h5), hear_same, ih (i + 1) (out ++ [c]) (m + 1) (by omega) (by omega) (by omega), List.append_assoc]
      rw [show 5 - m = (5 - (m + 1)) + 1 by omega, List.replicate_succ, show i + 1 + (5 - (m + 1)) = i + (5 - (m + 1) + 1) by omega]
      rfl
/-- the first letter of a run, behind another one -/
theorem ds_first (c : Nat) (rest : List Nat) (i : Nat) (out : List Nat) (r : Nat × Nat) (hr : ¬ c = r.1) (st : Nat) (hst : st = if r.2 = 5 then 1 else 0) :
    dsGo (c :: rest) i out r = dsGo rest (i + 1) (out ++ List.replicate (1 - st) c) (c, 1) := by
  have hh : hear r c = (c, 1) := by unfold hear; rw [if_neg hr]
  by_cases h5 : r.2 = 5
  · rw [if_pos h5] at hst
    subst hst
    rw [dsGo_skip _ _ _ _ _ h5 hr, hh]
    simp
  · rw [if_neg h5] at hst
    subst hst
    rw [dsGo_put _ _ _ _ _ h5, hh]
    simp
theorem rep_add (c : Nat) (out : List Nat) (a b : Nat) : out ++ List.replicate a c ++ List.replicate b c = out ++ List.replicate (a + b) c := by
  rw [List.append_assoc, List.replicate_append_replicate]
theorem ds_runs : ∀ (xs : List Nat) (c i st : Nat) (out : List Nat) (r : Nat × Nat), c < 2 → (∀ x ∈ xs, 1 ≤ x) → ¬ 48 + c = r.1 → st = (if r.2 = 5 then 1 else 0) →
    dsGo (rtGo c xs) i out r = drGo xs c i st out := by
  intro xs
  induction xs with
  | nil => intro c i st out r _ _ _ _; rfl
  | cons x xs ih =>
    intro c i st out r hc hx hr hst
    have h1 : 1 ≤ x := hx x (by simp)
    have hs1 : st ≤ 1 := by rw [hst]; split <;> omega
    obtain ⟨y, rfl⟩ : ∃ y, x = y + 1 := ⟨x - 1, by omega⟩
    show dsGo (List.replicate (y + 1) (48 + c) ++ rtGo (1 - c) xs) i out r = _
    rw [List.replicate_succ, List.cons_append, ds_first _ _ _ _ _ hr st hst, drGo]
    by_cases h5 : 5 < y + 1
    · rw [if_pos h5, ds_over _ _ y (i + 1) _ 1 (by omega) (by omega) (by omega), rep_add, show 1 - st + (5 - 1) = 5 - st by omega, show i + 1 + (5 - 1) = i + 5 by omega]
    · rw [if_neg h5, ds_run _ _ y (i + 1) _ 1 (by omega) (by omega), rep_add, show 1 - st + y = y + 1 - st by omega, show i + 1 + y = i + (y + 1) by omega]
      refine ih (1 - c) (i + (y + 1)) ((y + 1) / 5) _ (48 + c, 1 + y) (by omega) (fun z hz => hx z (by simp [hz])) (by show ¬ 48 + (1 - c) = 48 + c; omega) ?_
      show (y + 1) / 5 = if 1 + y = 5 then 1 else 0
      split <;> omega
theorem rt_len : ∀ (xs : List Nat) (c : Nat), (rtGo c xs).length = xs.sum := by
  intro xs
  induction xs with
  | nil => intro c; rfl
  | cons x xs ih => intro c; simp [rtGo, ih]
theorem rt_isL : ∀ (xs : List Nat) (c : Nat), c < 2 → ∀ y ∈ rtGo c xs, isL y := by
  intro xs
  induction xs with
  | nil => intro c _ y hy; cases hy
  | cons x xs ih =>
    intro c hc y hy
    simp only [rtGo, List.mem_append, List.mem_replicate] at hy
    rcases hy with ⟨_, rfl⟩ | hy
    · have : c = 0 ∨ c = 1 := by omega
      rcases this with rfl | rfl
      · exact .inl rfl
      · exact .inr rfl
    · exact ih (1 - c) (by omega) y hy
end Go.Proofs.Ytcenoecjihcjjaa.M
