import Derived.Test.YtnefmdjodjpopaaBD
namespace Go.Proofs.Ytnefmdjodjpopaa
set_option linter.unusedVariables false

def endL (p : List Nat) : Nat := layH p + 8 * layN p
def fieldN (n H E : Nat) : Nat :=
  if n = 0 then 1 else if n < 12 then 2 else if n = 12 then 3 else if n = 13 then 4
  else if n < H then (if H ≤ n + 4 then 8 else if H = 19 then 7 else if n < 32 then 5 else if n = 32 then 6 else 7)
  else if n < E then 9 else if n < E + 15 then 10 else if n < E + 18 then n - E - 4 else if n < E + 25 then 14 else 15
def takenN (n H E : Nat) : Nat :=
  if n = 0 then 0 else if n < 12 then n - 1 else if n = 12 then 0 else if n = 13 then 0
  else if n < H then (if H ≤ n + 4 then n + 4 - H else if H = 19 then 0 else if n < 32 then n - 14 else if n = 32 then 0 else n - 33)
  else if n < E then n - H else if n < E + 15 then n - E else if n < E + 18 then 0 else if n < E + 25 then n - E - 18 else 0
theorem layH_or (p : List Nat) : layH p = 19 ∨ layH p = 39 := by unfold layH; split <;> simp
theorem layN_le (p : List Nat) : layN p ≤ 8 := by unfold layN; split <;> omega
theorem fieldL_eq (p : List Nat) : fieldL p = fieldN p.length (layH p) (endL p) := by
  have h := layH_or p
  unfold fieldL fieldN layL endL
  by_cases h14 : p.length < 14
  · rw [if_pos h14]
    dsimp only
    by_cases h0 : p.length = 0
    · simp [h0]
    · by_cases h1 : p.length < 12
      · simp [h0, h1]
      · by_cases h2 : p.length = 12
        · simp [h2]
        · have h3 : p.length = 13 := by omega
          simp [h3]
  · rw [if_neg h14]
    by_cases hH : p.length < layH p
    · simp [hH]
    · simp [hH]
theorem getD_snoc (p : List Nat) (c j : Nat) : (p ++ [c]).getD j 0 = if j < p.length then p.getD j 0 else if j = p.length then c else 0 := by
  simp only [List.getD_eq_getElem?_getD, List.getElem?_append]
  split
  · rfl
  · split
    · rename_i h; simp [h]
    · rename_i h1 h2
      have : j - p.length ≠ 0 := by omega
      simp [this]
theorem getD_over (p : List Nat) (j : Nat) (h : p.length ≤ j) : p.getD j 0 = 0 := by simp [List.getD_eq_getElem?_getD, h]
theorem layH_snoc (p : List Nat) (c : Nat) (h : p.length ≠ 13) : layH (p ++ [c]) = layH p := by
  unfold layH
  rw [getD_snoc]
  split
  · rfl
  · rw [if_neg (show ¬ 13 = p.length by omega), getD_over p 13 (by omega)]
theorem drop_snoc (p : List Nat) (c j : Nat) (h : j ≤ p.length) : (p ++ [c]).drop j = p.drop j ++ [c] := by
  rw [List.drop_append_of_le_length h]
theorem stretch_in (p : List Nat) (c j m : Nat) (h : j + m ≤ p.length) : ((p ++ [c]).drop j).take m = (p.drop j).take m := by
  rw [drop_snoc _ _ _ (by omega), List.take_append_of_le_length (by rw [List.length_drop]; omega)]
theorem stretch_out (p : List Nat) (c j m : Nat) (h : p.length < j) : ((p ++ [c]).drop j).take m = (p.drop j).take m := by
  rw [List.drop_eq_nil_of_le (by simp; omega), List.drop_eq_nil_of_le (by omega)]
theorem stretch_at (p : List Nat) (c j m : Nat) (h1 : j ≤ p.length) (h2 : p.length < j + m) : ((p ++ [c]).drop j).take m = (p.drop j).take m ++ [c] := by
  rw [drop_snoc _ _ _ h1, List.take_of_length_le (by simp; omega), List.take_of_length_le (by simp; omega)]
theorem layN_snoc (p : List Nat) (c : Nat) (h : layH p ≤ p.length) : layN (p ++ [c]) = layN p := by
  have hH := layH_or p
  unfold layN
  have e1 : layH (p ++ [c]) = layH p := layH_snoc p c (by omega)
  have e2 : layR (p ++ [c]) = layR p := by
    unfold layR
    have hh : layH p = if p.getD 13 0 = 49 then 39 else 19 := rfl
    rw [getD_snoc, getD_snoc, getD_snoc, if_pos (show 13 < p.length by omega), if_pos (show 12 < p.length by omega)]
    split
    · rename_i h13
      rw [if_pos h13] at hh
      rw [if_pos (show 32 < p.length by omega)]
    · rfl
  rw [e1, e2, stretch_in _ _ _ _ (by omega)]
theorem endL_snoc (p : List Nat) (c : Nat) (h : layH p ≤ p.length) : endL (p ++ [c]) = endL p := by
  have hH := layH_or p
  unfold endL
  rw [layN_snoc p c h, layH_snoc p c (by omega)]

/-- eights of letters as numbers -/
def chunk8 (q : List Nat) : List Nat := (List.range ((q.length + 7) / 8)).map fun j => valL ((q.drop (8 * j)).take 8)
def bitsL (p : List Nat) : List Nat := p.map (· - 48)
def headL (p : List Nat) : List Nat := if p.length < layH p then p else p.take (endL p)
def dataL (p : List Nat) : List Nat := if p.length < layH p then [] else (p.take (endL p)).drop (layH p)
def sumL (p : List Nat) : List Nat := if p.length < layH p then [] else (p.drop (endL p)).take 15
def idL (p : List Nat) : List Nat := (p.drop 1).take 11 ++ (if p.getD 13 0 = 49 then (p.drop 14).take 18 else [])
structure Vals (k : Wk) (p : List Nat) : Prop where
  ext : k.ext = decide (p.getD 13 0 = 49)
  rtr : k.rtr = if 32 < p.length ∧ p.getD 13 0 = 49 then decide (p.getD 32 0 = 49) else decide (p.getD 12 0 = 49)
  dlc : k.dlc = valL ((p.drop (layH p - 4)).take 4)
  sum : k.sum = M.crcN (bitsL (headL p))
  crc : k.crc = valL (sumL p)
  id : k.id = valL (idL p)
  data : k.data = chunk8 (dataL p)
structure Rel (k : Wk) (p : List Nat) : Prop extends Vals k p where
  field : k.field = fieldN p.length (layH p) (endL p)
  taken : k.taken = takenN p.length (layH p) (endL p)
theorem chunk8_get (q : List Nat) (j : Nat) (h : j < (chunk8 q).length) : (chunk8 q)[j] = valL ((q.drop (8 * j)).take 8) := by simp [chunk8]
theorem chunk8_snoc (q : List Nat) (c : Nat) (hc : M.isL c) : chunk8 (q ++ [c]) = keepD (chunk8 q) q.length (c - 48) := by
  have hv : valStep 0 c = c - 48 := by rcases hc with rfl | rfl <;> rfl
  have hv2 : ∀ v, valStep v c = 2 * v + (c - 48) := by intro v; rcases hc with rfl | rfl <;> rfl
  unfold keepD
  have hl : (chunk8 q).length = (q.length + 7) / 8 := by simp [chunk8]
  split
  · rename_i h
    unfold chunk8
    rw [List.length_append, List.length_singleton, show (q.length + 1 + 7) / 8 = (q.length + 7) / 8 + 1 by omega, List.range_succ, List.map_append]
    congr 1
    · apply List.map_congr_left
      intro j hj
      rw [List.mem_range] at hj
      rw [stretch_in _ _ _ _ (by omega)]
    · rw [List.map_singleton, stretch_at _ _ _ _ (by omega) (by omega), List.drop_eq_nil_of_le (by omega)]
      simp [valL, hv]
  · rename_i h
    have hm : (q.length + 1 + 7) / 8 = (q.length + 7) / 8 := by omega
    have hlast : (chunk8 q).getD ((chunk8 q).length - 1) 0 = valL (q.drop (8 * (q.length / 8))) := by
      rw [hl]
      unfold chunk8
      rw [List.getD_eq_getElem?_getD, List.getElem?_map, List.getElem?_range (by omega)]
      show valL _ = _
      rw [show (q.length + 7) / 8 - 1 = q.length / 8 by omega, List.take_of_length_le (by rw [List.length_drop]; omega)]
    rw [hlast, hl]
    apply List.ext_getElem
    · simp [chunk8, hm]
    · intro j h1 h2
      have hj : j < (q.length + 7) / 8 := by simpa [chunk8] using h2
      rw [List.getElem_set]
      split
      · rename_i hjj
        rw [chunk8_get, stretch_at _ _ _ _ (by omega) (by omega), valL_snoc, hv2, List.take_of_length_le (by rw [List.length_drop]; omega)]
        have : valL (q.drop (8 * j)) < 128 := by
          refine Nat.lt_of_lt_of_le (valL_lt _) ?_
          rw [List.length_drop]
          exact Nat.le_trans (Nat.pow_le_pow_right (by decide) (show q.length - 8 * j ≤ 7 by omega)) (by decide)
        rw [show q.length / 8 = j by omega]
        omega
      · rw [chunk8_get, chunk8_get, stretch_in _ _ _ _ (by omega)]

theorem keep_ext (k : Wk) (b : Nat) : (k.keep b).ext = if k.field = 4 then decide (b = 1) else k.ext := by
  unfold Wk.keep Wk.keep1; grind
theorem keep_rtr (k : Wk) (b : Nat) : (k.keep b).rtr = if k.field = 3 ∨ k.field = 6 then decide (b = 1) else k.rtr := by
  unfold Wk.keep Wk.keep1; grind
theorem keep_dlcV (k : Wk) (b : Nat) : (k.keep b).dlc = if k.field = 8 then 2 * k.dlc + b else k.dlc := by
  unfold Wk.keep Wk.keep1; grind
theorem keep_sum (k : Wk) (b : Nat) : (k.keep b).sum = if k.field ≤ 9 then M.stepN k.sum b else k.sum := by
  unfold Wk.keep Wk.keep1; grind
theorem keep_crc (k : Wk) (b : Nat) : (k.keep b).crc = if k.field = 10 then 2 * k.crc + b else k.crc := by
  unfold Wk.keep Wk.keep1; grind
theorem keep_id (k : Wk) (b : Nat) : (k.keep b).id = if k.field = 2 ∨ k.field = 5 then 2 * k.id + b else k.id := by
  unfold Wk.keep Wk.keep1; grind
theorem keep_data (k : Wk) (b : Nat) : (k.keep b).data = if k.field = 9 then keepD k.data k.taken b else k.data := by
  unfold Wk.keep Wk.keep1; grind
theorem fN4 (n H E : Nat) (h : H = 19 ∨ H = 39) (hE : H ≤ E) : fieldN n H E = 4 ↔ n = 13 := by unfold fieldN; grind (splits := 16)
theorem fN3 (n H E : Nat) (h : H = 19 ∨ H = 39) (hE : H ≤ E) : fieldN n H E = 3 ↔ n = 12 := by unfold fieldN; grind (splits := 16)
theorem fN6 (n H E : Nat) (h : H = 19 ∨ H = 39) (hE : H ≤ E) : fieldN n H E = 6 ↔ n = 32 ∧ H = 39 := by unfold fieldN; grind (splits := 16)
theorem fN2 (n H E : Nat) (h : H = 19 ∨ H = 39) (hE : H ≤ E) : fieldN n H E = 2 ↔ 1 ≤ n ∧ n < 12 := by unfold fieldN; grind (splits := 16)
theorem fN5 (n H E : Nat) (h : H = 19 ∨ H = 39) (hE : H ≤ E) : fieldN n H E = 5 ↔ 14 ≤ n ∧ n < 32 ∧ H = 39 := by unfold fieldN; grind (splits := 16)
theorem fN8 (n H E : Nat) (h : H = 19 ∨ H = 39) (hE : H ≤ E) : fieldN n H E = 8 ↔ H ≤ n + 4 ∧ n < H := by unfold fieldN; grind (splits := 16)
theorem fN9 (n H E : Nat) (h : H = 19 ∨ H = 39) (hE : H ≤ E) : fieldN n H E = 9 ↔ H ≤ n ∧ n < E := by unfold fieldN; grind (splits := 16)
theorem fN10 (n H E : Nat) (h : H = 19 ∨ H = 39) (hE : H ≤ E) : fieldN n H E = 10 ↔ E ≤ n ∧ n < E + 15 := by unfold fieldN; grind (splits := 16)
theorem fNle9 (n H E : Nat) (h : H = 19 ∨ H = 39) (hE : H ≤ E) : fieldN n H E ≤ 9 ↔ n < E := by unfold fieldN; grind (splits := 16)
theorem layH_le (p : List Nat) : layH p ≤ endL p := by unfold endL; omega
/-- one plain letter more: the field and the place in it, as numbers -/
theorem adv_num (n H E H' E' N' : Nat) (h : H = 19 ∨ H = 39) (h' : H' = 19 ∨ H' = 39) (hE : H ≤ E) (hE' : E' = H' + 8 * N') (h13 : n ≠ 13 → H' = H) (hEE : H ≤ n → E' = E) (hn : n < H ∨ n < E + 25) (D : Nat) (hD : H' ≤ n + 1 → D = N') (X : Bool) (hX : 13 ≤ n → (X = true ↔ H' = 39)) (fs fa : Nat)
    (hfs : fs = if fieldN n H E = 2 then 11 else if fieldN n H E = 5 then 18 else if fieldN n H E = 7 then (if X = true then 2 else 1) else if fieldN n H E = 8 then 4 else if fieldN n H E = 9 then 8 * D else if fieldN n H E = 10 then 15 else if fieldN n H E = 14 then 7 else 1)
    (hfa : fa = if fieldN n H E = 4 ∧ X = false then 7 else if fieldN n H E = 8 ∧ D = 0 then 10 else fieldN n H E + 1) :
    (takenN n H E + 1 = fs → fieldN (n + 1) H' E' = fa ∧ takenN (n + 1) H' E' = 0) ∧ (takenN n H E + 1 ≠ fs → fieldN (n + 1) H' E' = fieldN n H E ∧ takenN (n + 1) H' E' = takenN n H E + 1) := by
  by_cases a : n < 14
  · have c : n = 0 ∨ (1 ≤ n ∧ n < 11) ∨ n = 11 ∨ n = 12 ∨ n = 13 := by omega
    rcases c with rfl | c | rfl | rfl | rfl
    · simp only [fieldN, takenN] at *; grind
    · have e1 : fieldN n H E = 2 := by rw [fN2 _ _ _ h hE]; omega
      have e2 : fieldN (n + 1) H' E' = 2 := by rw [fN2 _ _ _ h' (by omega)]; omega
      have e3 : takenN n H E = n - 1 := by unfold takenN; grind
      have e4 : takenN (n + 1) H' E' = n := by unfold takenN; grind
      rw [e1] at hfs hfa ⊢; grind
    · simp only [fieldN, takenN] at *; grind
    · simp only [fieldN, takenN] at *; grind
    · have hX := hX (Nat.le_refl _)
      rcases h' with rfl | rfl
      · have : X = false := by cases X <;> simp_all
        simp [fieldN, takenN, this] at *; grind
      · have : X = true := by rw [hX]
        simp [fieldN, takenN, this] at *; grind
  · have h0 := h13 (by omega)
    subst h0
    have hX := hX (by omega)
    by_cases b : n < H'
    · rcases h with rfl | rfl
      · have hx : X = false := by cases X <;> simp_all
        have c : n = 14 ∨ (15 ≤ n ∧ n < 18) ∨ n = 18 := by omega
        rcases c with rfl | c | rfl
        · simp [fieldN, takenN, hx] at *; grind
        · have e1 : fieldN n 19 E = 8 := by rw [fN8 _ _ _ (by simp) hE]; omega
          have e2 : fieldN (n + 1) 19 E' = 8 := by rw [fN8 _ _ _ (by simp) (by omega)]; omega
          have e3 : takenN n 19 E = n - 15 := by unfold takenN; grind
          have e4 : takenN (n + 1) 19 E' = n - 14 := by unfold takenN; grind
          rw [e1] at hfs hfa ⊢; grind
        · have hD := hD (by omega)
          subst hD
          have e1 : fieldN 18 19 E = 8 := by rw [fN8 _ _ _ (by simp) hE]; omega
          have e3 : takenN 18 19 E = 3 := by unfold takenN; grind
          have e4 : takenN 19 19 E' = 0 := by unfold takenN; grind
          have e5 : fieldN 19 19 E' = if D = 0 then 10 else 9 := by unfold fieldN; grind
          rw [e1] at hfs hfa ⊢; grind
      · have hx : X = true := by rw [hX]
        have c : (14 ≤ n ∧ n < 31) ∨ n = 31 ∨ n = 32 ∨ n = 33 ∨ n = 34 ∨ (35 ≤ n ∧ n < 38) ∨ n = 38 := by omega
        rcases c with c | rfl | rfl | rfl | rfl | c | rfl
        · have e1 : fieldN n 39 E = 5 := by rw [fN5 _ _ _ (by simp) hE]; omega
          have e2 : fieldN (n + 1) 39 E' = 5 := by rw [fN5 _ _ _ (by simp) (by omega)]; omega
          have e3 : takenN n 39 E = n - 14 := by unfold takenN; grind (splits := 14)
          have e4 : takenN (n + 1) 39 E' = n - 13 := by unfold takenN; grind (splits := 14)
          rw [e1] at hfs hfa ⊢; grind
        · simp [fieldN, takenN, hx] at *; grind
        · simp [fieldN, takenN, hx] at *; grind
        · simp [fieldN, takenN, hx] at *; grind
        · simp [fieldN, takenN, hx] at *; grind
        · have e1 : fieldN n 39 E = 8 := by rw [fN8 _ _ _ (by simp) hE]; omega
          have e2 : fieldN (n + 1) 39 E' = 8 := by rw [fN8 _ _ _ (by simp) (by omega)]; omega
          have e3 : takenN n 39 E = n - 35 := by unfold takenN; grind
          have e4 : takenN (n + 1) 39 E' = n - 34 := by unfold takenN; grind
          rw [e1] at hfs hfa ⊢; grind
        · have hD := hD (by omega)
          subst hD
          have e1 : fieldN 38 39 E = 8 := by rw [fN8 _ _ _ (by simp) hE]; omega
          have e3 : takenN 38 39 E = 3 := by unfold takenN; grind
          have e4 : takenN 39 39 E' = 0 := by unfold takenN; grind
          have e5 : fieldN 39 39 E' = if D = 0 then 10 else 9 := by unfold fieldN; grind
          rw [e1] at hfs hfa ⊢; grind
    · have hEE := hEE (by omega)
      have hD := hD (by omega)
      subst hD
      clear hX
      have hge : 19 ≤ H' := by omega
      have F : ∀ m, H' ≤ m → fieldN m H' E = if m < E then 9 else if m < E + 15 then 10 else if m < E + 18 then m - E - 4 else if m < E + 25 then 14 else 15 := by
        intro m hm; unfold fieldN; rw [if_neg (by omega), if_neg (by omega), if_neg (by omega), if_neg (by omega), if_neg (by omega)]
      have T : ∀ m, H' ≤ m → takenN m H' E = if m < E then m - H' else if m < E + 15 then m - E else if m < E + 18 then 0 else if m < E + 25 then m - E - 18 else 0 := by
        intro m hm; unfold takenN; rw [if_neg (by omega), if_neg (by omega), if_neg (by omega), if_neg (by omega), if_neg (by omega)]
      rw [hEE, F (n + 1) (by omega), T (n + 1) (by omega), T n (by omega), hfs, hfa, F n (by omega)]
      clear F T hfs hfa h13 h'
      have hE2 : E = H' + 8 * D := by omega
      clear hE' hEE
      rcases (show n < E ∨ (E ≤ n ∧ n < E + 15) ∨ n = E + 15 ∨ n = E + 16 ∨ n = E + 17 ∨ (E + 18 ≤ n ∧ n < E + 25) by omega) with c | c | rfl | rfl | rfl | c
      · simp only [c]; grind
      · have c1 : ¬ n < E := by omega
        simp only [c, c1]; grind
      · simp; grind
      · simp; grind
      · simp; grind
      · have c1 : ¬ n < E := by omega
        have c2 : ¬ n < E + 15 := by omega
        have c3 : ¬ n < E + 18 := by omega
        simp only [c, c1, c2, c3]; grind
theorem isL_bit {c : Nat} (hc : M.isL c) : decide (c - 48 = 1) = decide (c = 49) ∧ ∀ v, valStep v c = 2 * v + (c - 48) := by
  rcases hc with rfl | rfl <;> exact ⟨rfl, fun _ => rfl⟩
theorem bitsL_snoc (l : List Nat) (c : Nat) : bitsL (l ++ [c]) = bitsL l ++ [c - 48] := by simp [bitsL]
theorem layH_iff (p : List Nat) : layH p = 39 ↔ p.getD 13 0 = 49 := by unfold layH; split <;> simp_all
theorem vals_step (k : Wk) (p : List Nat) (c : Nat) (hc : M.isL c) (h : Rel k p) (hn : p.length < layH p ∨ p.length < endL p + 25) : Vals (k.keep (c - 48)) (p ++ [c]) := by
  have hH := layH_or p
  have hE := layH_le p
  obtain ⟨hb1, hb2⟩ := isL_bit hc
  have hf := h.field
  have hHs : p.length = 13 ∨ layH (p ++ [c]) = layH p := by
    by_cases e : p.length = 13
    · exact .inl e
    · exact .inr (layH_snoc p c e)
  constructor
  · rw [keep_ext, hf]
    simp only [fN4 _ _ _ hH hE]
    rw [hb1, h.ext, getD_snoc]
    by_cases e : p.length = 13
    · rw [if_pos e, if_neg (by omega), if_pos e.symm]
    · rw [if_neg e]
      by_cases e2 : 13 < p.length
      · rw [if_pos e2]
      · rw [if_neg e2, if_neg (show ¬ 13 = p.length by omega), getD_over p 13 (by omega)]
  · rw [keep_rtr, hf]
    simp only [fN3 _ _ _ hH hE, fN6 _ _ _ hH hE, layH_iff]
    rw [hb1, h.rtr]
    simp only [getD_snoc, List.length_append, List.length_singleton]
    have hne : ¬ (0 : Nat) = 49 := by decide
    by_cases e12 : p.length < 12
    · have := getD_over p 13 (by omega)
      have := getD_over p 12 (by omega)
      grind
    · by_cases e13 : p.length ≤ 13
      · have := getD_over p 13 (by omega)
        grind
      · grind
  · rw [keep_dlcV, hf]
    simp only [fN8 _ _ _ hH hE]
    rw [h.dlc]
    by_cases e13 : p.length = 13
    · rw [if_neg (by omega)]
      have hH' := layH_or (p ++ [c])
      rw [List.drop_eq_nil_of_le (by omega), List.drop_eq_nil_of_le (by simp; omega)]
    · rw [layH_snoc p c e13]
      split
      · rw [stretch_at _ _ _ _ (by omega) (by omega), valL_snoc, hb2]
      · by_cases e : p.length < layH p
        · rw [stretch_out _ _ _ _ (by omega)]
        · rw [stretch_in _ _ _ _ (by omega)]
  · rw [keep_sum, hf]
    simp only [fNle9 _ _ _ hH hE]
    rw [h.sum]
    unfold headL
    rw [List.length_append, List.length_singleton]
    have hH' := layH_or (p ++ [c])
    have hE' := layH_le (p ++ [c])
    by_cases e1 : p.length < layH p
    · rw [if_pos e1, if_pos (by omega), ← M.crcN_snoc, ← bitsL_snoc]
      congr 2
      split
      · rfl
      · rw [List.take_of_length_le (by simp; omega)]
    · have e3 : layH (p ++ [c]) = layH p := layH_snoc p c (by omega)
      have e4 : endL (p ++ [c]) = endL p := endL_snoc p c (by omega)
      rw [if_neg e1, if_neg (show ¬ p.length + 1 < layH (p ++ [c]) by omega), e4]
      by_cases e2 : p.length < endL p
      · rw [if_pos e2, List.take_of_length_le (by omega), List.take_of_length_le (by simp; omega), ← M.crcN_snoc, ← bitsL_snoc]
      · rw [if_neg e2, List.take_append_of_le_length (by omega)]
  · rw [keep_crc, hf]
    simp only [fN10 _ _ _ hH hE]
    rw [h.crc]
    unfold sumL
    rw [List.length_append, List.length_singleton]
    have hH' := layH_or (p ++ [c])
    have hE' := layH_le (p ++ [c])
    by_cases e1 : p.length < layH p
    · rw [if_pos e1, if_neg (show ¬ (_ ∧ _) by omega)]
      split
      · rfl
      · rw [List.drop_eq_nil_of_le (by simp; omega)]; rfl
    · have e3 : layH (p ++ [c]) = layH p := layH_snoc p c (by omega)
      have e4 : endL (p ++ [c]) = endL p := endL_snoc p c (by omega)
      rw [if_neg e1, if_neg (show ¬ p.length + 1 < layH (p ++ [c]) by omega), e4]
      split
      · rw [stretch_at _ _ _ _ (by omega) (by omega), valL_snoc, hb2]
      · by_cases e : p.length < endL p
        · rw [stretch_out _ _ _ _ (by omega)]
        · rw [stretch_in _ _ _ _ (by omega)]
  · rw [keep_id, hf]
    simp only [fN2 _ _ _ hH hE, fN5 _ _ _ hH hE, layH_iff]
    rw [h.id]
    unfold idL
    rw [getD_snoc]
    by_cases e1 : p.length = 0
    · have : p = [] := by simpa using e1
      subst this
      rfl
    · by_cases e2 : p.length < 12
      · rw [if_pos (by omega), if_neg (show ¬ 13 < p.length by omega), if_neg (show ¬ 13 = p.length by omega), getD_over p 13 (by omega), stretch_at _ _ _ _ (by omega) (by omega), if_neg (by decide), List.append_nil, if_neg (by decide), List.append_nil, valL_snoc, hb2]
      · rw [stretch_in p c 1 11 (by omega)]
        by_cases e3 : p.length < 14
        · rw [if_neg (by omega), List.drop_eq_nil_of_le (show (p ++ [c]).length ≤ 14 by simp; omega), List.drop_eq_nil_of_le (show p.length ≤ 14 by omega)]
          simp
        · rw [if_pos (show 13 < p.length by omega)]
          by_cases e5 : p.getD 13 0 = 49
          · rw [if_pos e5, if_pos e5]
            split
            · rw [stretch_at _ _ _ _ (by omega) (by omega), ← List.append_assoc, valL_snoc, hb2]
            · rw [stretch_in _ _ _ _ (by omega)]
          · rw [if_neg e5, if_neg e5, if_neg (by omega)]
  · rw [keep_data, hf]
    simp only [fN9 _ _ _ hH hE]
    rw [h.data, h.taken]
    unfold dataL
    rw [List.length_append, List.length_singleton]
    have hH' := layH_or (p ++ [c])
    have hE' := layH_le (p ++ [c])
    by_cases e1 : p.length < layH p
    · rw [if_pos e1, if_neg (show ¬ (_ ∧ _) by omega)]
      split
      · rfl
      · rw [List.drop_eq_nil_of_le (by simp; omega)]
    · have e3 : layH (p ++ [c]) = layH p := layH_snoc p c (by omega)
      have e4 : endL (p ++ [c]) = endL p := endL_snoc p c (by omega)
      rw [if_neg e1, if_neg (show ¬ p.length + 1 < layH (p ++ [c]) by omega), e3, e4]
      by_cases e2 : p.length < endL p
      · rw [if_pos (by omega), List.take_of_length_le (show p.length ≤ endL p by omega), List.take_of_length_le (by simp; omega), drop_snoc _ _ _ (by omega), chunk8_snoc _ _ hc]
        congr 1
        rw [List.length_drop]
        unfold takenN
        rw [if_neg (by omega), if_neg (by omega), if_neg (by omega), if_neg (by omega), if_neg (by omega), if_pos e2]
      · rw [if_neg (by omega), List.take_append_of_le_length (by omega)]

theorem dlen_eq (k : Wk) (p : List Nat) (h : Vals k p) (hn : layH p ≤ p.length) : k.dlen = layN p := by
  have hH := layH_or p
  have hi := layH_iff p
  unfold Wk.dlen layN
  have e : k.rtr = layR p := by
    rw [h.rtr]
    unfold layR
    grind
  rw [e, h.dlc]
theorem rel_step (k : Wk) (p : List Nat) (c : Nat) (hc : M.isL c) (h : Rel k p) (hn : p.length < layH p ∨ p.length < endL p + 25) : Rel ((k.keep (c - 48)).adv) (p ++ [c]) := by
  have hv := vals_step k p c hc h hn
  have hH := layH_or p
  have hH' := layH_or (p ++ [c])
  have hE := layH_le p
  have hN := adv_num p.length (layH p) (endL p) (layH (p ++ [c])) (endL (p ++ [c])) (layN (p ++ [c])) hH hH' hE rfl (layH_snoc p c) (endL_snoc p c) hn (k.keep (c - 48)).dlen
    (fun e => dlen_eq _ _ hv (by simpa using e)) (k.keep (c - 48)).ext (fun e => by rw [hv.ext, layH_iff]; simp) ((k.keep (c - 48)).fsize k.field) ((k.keep (c - 48)).fafter k.field)
    (by unfold Wk.fsize; rw [h.field]) (by unfold Wk.fafter; rw [h.field])
  have hl : (p ++ [c]).length = p.length + 1 := by simp
  unfold Wk.adv
  rw [keep_taken, keep_field]
  split
  · rename_i e
    rw [h.taken] at e
    have := hN.1 e
    exact { ext := hv.ext, rtr := hv.rtr, dlc := hv.dlc, sum := hv.sum, crc := hv.crc, id := hv.id, data := hv.data, field := by rw [hl]; exact this.1.symm, taken := by rw [hl]; exact this.2.symm }
  · rename_i e
    rw [h.taken] at e
    have := hN.2 e
    exact { ext := hv.ext, rtr := hv.rtr, dlc := hv.dlc, sum := hv.sum, crc := hv.crc, id := hv.id, data := hv.data, field := by rw [hl, this.1]; exact h.field, taken := by rw [hl, this.2]; show k.taken + 1 = _; rw [h.taken] }
theorem Rel.heard {k : Wk} {p : List Nat} (h : Rel k p) (c : Nat) : Rel (k.heard c) p := { ext := h.ext, rtr := h.rtr, dlc := h.dlc, sum := h.sum, crc := h.crc, id := h.id, data := h.data, field := h.field, taken := h.taken }
theorem Rel.code {k : Wk} {p : List Nat} (h : Rel k p) (c : Nat) : Rel { k with code := c } p := { ext := h.ext, rtr := h.rtr, dlc := h.dlc, sum := h.sum, crc := h.crc, id := h.id, data := h.data, field := h.field, taken := h.taken }
theorem rel_init : Rel Wk.init [] := { ext := rfl, rtr := rfl, dlc := rfl, sum := rfl, crc := rfl, id := rfl, data := rfl, field := rfl, taken := rfl }
theorem fN_gt10 (n H E : Nat) (h : H = 19 ∨ H = 39) (hE : H ≤ E) : 10 < fieldN n H E ↔ E + 15 ≤ n := by unfold fieldN; grind (splits := 16)
def crcOkM (l : List Nat) : Bool := decide (¬ ((layL l).2 = 0 ∨ l.length < (layL l).2 + 15)) && decide (M.crcN ((l.take (layL l).2).map (· - 48)) = valL ((l.drop (layL l).2).take 15))
theorem crcOkL_M (p : List Nat) (hp : ∀ x ∈ p, M.isL x) : crcOkL p = crcOkM p := by
  unfold crcOkL crcOkM
  have hle := (layL_le p).2
  rw [crcZ_strN (p.take (layL p).2) (fun x hx => hp x (List.mem_of_mem_take hx)) (by rw [List.length_take]; omega)]
  congr 1
  rw [Bool.eq_iff_iff]
  simp only [decide_eq_true_eq]
  omega
theorem crcOk_eq {k : Wk} {p : List Nat} (h : Rel k p) (hp : ∀ x ∈ p, M.isL x) : k.crcOk = crcOkL p := by
  rw [crcOkL_M p hp]
  have hH := layH_or p
  have hE := layH_le p
  unfold Wk.crcOk crcOkM
  rw [h.field, h.crc, h.sum]
  by_cases e : p.length < endL p + 15
  · have e1 : ¬ 10 < fieldN p.length (layH p) (endL p) := by rw [fN_gt10 _ _ _ hH hE]; omega
    have e2 : (layL p).2 = 0 ∨ p.length < (layL p).2 + 15 := by
      unfold layL
      split
      · simp
      · split
        · simp
        · exact .inr e
    simp [e1, e2]
  · have e1 : 10 < fieldN p.length (layH p) (endL p) := by rw [fN_gt10 _ _ _ hH hE]; omega
    have e2 : (layL p).2 = endL p := by unfold layL; rw [if_neg (by omega), if_neg (by omega)]; rfl
    have e3 : ¬ ((layL p).2 = 0 ∨ p.length < (layL p).2 + 15) := by rw [e2]; omega
    simp only [e1, e2]
    unfold headL sumL
    rw [if_neg (by omega), if_neg (by omega)]
    unfold bitsL
    have e4 : ¬ (endL p = 0 ∨ p.length < endL p + 15) := by omega
    simp only [e4]
    simp only [decide_true, not_false_eq_true, Bool.true_and]
    rw [Bool.eq_iff_iff]
    simp only [decide_eq_true_eq]
    exact eq_comm
theorem layL2 {p : List Nat} (h : layH p ≤ p.length) : (layL p).2 = endL p := by
  have hH := layH_or p
  unfold layL
  rw [if_neg (by omega), if_neg (by omega)]; rfl
theorem fN14 (n H E : Nat) (h : H = 19 ∨ H = 39) (hE : H ≤ E) : fieldN n H E = 14 ↔ E + 18 ≤ n ∧ n < E + 25 := by unfold fieldN; grind (splits := 16)
theorem fN15 (n H E : Nat) (h : H = 19 ∨ H = 39) (hE : H ≤ E) : ¬ fieldN n H E ≤ 14 ↔ E + 25 ≤ n := by unfold fieldN; grind (splits := 16)
theorem look_eq {k : Wk} {p : List Nat} (h : Rel k p) (hp : ∀ x ∈ p, M.isL x) (c : Nat) (hc : M.isL c) : k.plainCode (c - 48) = lookL p c := by
  have hH := layH_or p
  have hE := layH_le p
  have hfl := fieldL_eq p
  have hco := crcOk_eq h hp
  have hf := h.field
  unfold Wk.plainCode lookL
  rw [hfl, ← hf, hco]
  by_cases f1 : k.field = 1
  · rw [if_pos f1, if_pos f1]
    rcases hc with rfl | rfl <;> rfl
  · rw [if_neg f1, if_neg f1]
    by_cases f11 : k.field = 11
    · rw [if_pos f11, if_pos f11]
      rcases hc with rfl | rfl <;> rfl
    · rw [if_neg f11, if_neg f11]
      by_cases f13 : k.field = 13
      · rw [if_pos f13, if_pos f13]
        rcases hc with rfl | rfl
        · simp [Wk.form]
        · simp [Wk.form]
      · rw [if_neg f13, if_neg f13]
        by_cases f14 : k.field = 14
        · rw [if_pos f14, if_pos f14]
          have hr := (fN14 _ _ _ hH hE).1 (hf ▸ f14)
          have ht : k.taken = p.length - endL p - 18 := by
            rw [h.taken]; unfold takenN
            rw [if_neg (by omega), if_neg (by omega), if_neg (by omega), if_neg (by omega), if_neg (by omega), if_neg (by omega), if_neg (by omega), if_neg (by omega), if_pos (by omega)]
          rw [layL2 (by omega)]
          unfold Wk.eofCode Wk.form
          simp only [f14, true_and]
          rcases hc with rfl | rfl <;> simp <;> grind
        · rw [if_neg f14, if_neg f14]
theorem over_isL {L : List Nat} (h : ∀ x ∈ L, M.isL x) (i : Nat) (hi : i < L.length) : M.isL (L.getD i 0) := by
  have e : L.getD i 0 = L[i] := by simp [hi]
  rw [e]; exact h _ (List.getElem_mem hi)
theorem take_snocN (L : List Nat) (i : Nat) (hi : i < L.length) : L.take (i + 1) = L.take i ++ [L.getD i 0] := by
  have e : L.getD i 0 = L[i] := by simp [hi]
  rw [e, List.take_succ_eq_append_getElem hi]
theorem due_trailN (L : List Nat) (h : ∀ x ∈ L, M.isL x) : ∀ i, i ≤ L.length → (dueF (fun t => L.getD t 0) i = true ↔ 5 ≤ (M.trail (L.take i)).2) := by
  intro i hi
  by_cases h5 : 5 ≤ i
  · obtain ⟨m, rfl⟩ : ∃ m, i = m + 5 := ⟨i - 5, by omega⟩
    have e : L.take (m + 5) = L.take m ++ [L.getD m 0] ++ [L.getD (m + 1) 0] ++ [L.getD (m + 2) 0] ++ [L.getD (m + 3) 0] ++ [L.getD (m + 4) 0] := by
      rw [take_snocN L (m + 4) (by omega), take_snocN L (m + 3) (by omega), take_snocN L (m + 2) (by omega), take_snocN L (m + 1) (by omega), take_snocN L m (by omega)]
    rw [e, M.trail5]
    simp only [dueF, show m + 5 - 1 = m + 4 by omega, show m + 5 - 2 = m + 3 by omega, show m + 5 - 3 = m + 2 by omega, show m + 5 - 4 = m + 1 by omega, show m + 5 - 5 = m by omega]
    simp
    constructor
    · rintro ⟨⟨⟨a, b⟩, c⟩, d⟩; exact ⟨a, b, c, d⟩
    · rintro ⟨a, b, c, d⟩; exact ⟨⟨⟨a, b⟩, c⟩, d⟩
  · have := M.trail_le (L.take i)
    rw [List.length_take] at this
    simp [dueF]; omega
/-- the two walks side by side, behind letter i -/
structure Side (L : List Nat) (i : Nat) (k : Wk) : Prop where
  rel : Rel k (sw L i).2.1
  code : k.code = (sw L i).1
  due : k.due = (sw L i).2.2
  last : k.last = M.trail (L.take i)
  run : k.field ≤ 11 → k.last.2 ≤ 5
  inn : k.field ≤ 14
theorem side0 (L : List Nat) : Side L 0 Wk.init := ⟨rel_init, rfl, rfl, by simp [Wk.init, M.trail], fun _ => by decide, by decide⟩
theorem Wk.keepadv_last (k : Wk) (b : Nat) : ((k.keep b).adv).last = k.last := by rw [adv_last, keep_last]
theorem adv_field_ge (k : Wk) (b : Nat) : k.field ≤ ((k.keep b).adv).field := by
  unfold Wk.adv
  rw [keep_field]
  split
  · show _ ≤ Wk.fafter _ _
    unfold Wk.fafter
    split
    · omega
    · split <;> omega
  · exact Nat.le_refl _
theorem due_eq (L : List Nat) (hL : ∀ x ∈ L, M.isL x) (j : Nat) (hj : j ≤ L.length) (k : Wk) (p : List Nat) (hr : Rel k p) (hl : k.last = M.trail (L.take j)) (hrun : k.field ≤ 11 → k.last.2 ≤ 5) :
    k.due = (dueF (fun t => L.getD t 0) j && (decide (fieldL p ≤ 10) || decide (fieldL p = 11))) := by
  have hf : fieldL p = k.field := by rw [fieldL_eq, hr.field]
  have hd := due_trailN L hL j hj
  rw [← hl] at hd
  rw [Bool.eq_iff_iff]
  unfold Wk.due
  simp only [Bool.and_eq_true, Bool.or_eq_true, decide_eq_true_eq]
  rw [hd, hf]
  constructor
  · rintro ⟨a, b⟩; exact ⟨by omega, by omega⟩
  · rintro ⟨a, b⟩; exact ⟨by omega, by have := hrun (by omega); omega⟩
/-- one letter in both walks -/
theorem side_step (L : List Nat) (hL : ∀ x ∈ L, M.isL x) (i : Nat) (hi : i < L.length) (k : Wk) (h : Side L i k) :
    (k.take (L.getD i 0)).2 = (sw L (i + 1)).1 ∧ Vals (k.take (L.getD i 0)).1 (sw L (i + 1)).2.1 ∧
    (goesOnB (sw L (i + 1)).1 = true → Side L (i + 1) { (k.take (L.getD i 0)).1 with code := (k.take (L.getD i 0)).2 }) := by
  have hc := over_isL hL i hi
  have ht : M.trail (L.take (i + 1)) = M.hear k.last (L.getD i 0) := by rw [take_snocN L i hi, M.trail_snoc, h.last]
  have hs : sw L (i + 1) = swStep L i (sw L i) := rfl
  have hlen : (sw L i).2.1.length < layH (sw L i).2.1 ∨ (sw L i).2.1.length < endL (sw L i).2.1 + 25 := by
    have a := h.rel.field
    have b := h.inn
    have c := fN15 (sw L i).2.1.length _ _ (layH_or (sw L i).2.1) (layH_le (sw L i).2.1)
    omega
  by_cases hd : k.due = true
  · have hsd : (sw L i).2.2 = true := by rw [← h.due]; exact hd
    have hk : k.field ≤ 11 ∧ k.last.2 = 5 := by simpa [Wk.due] using hd
    obtain ⟨m, rfl⟩ : ∃ m, i = m + 1 := by
      cases i with
      | zero => cases hsd
      | succ m => exact ⟨m, rfl⟩
    have hlast : k.last.1 = L.getD m 0 := by rw [h.last, take_snocN L m (by omega), M.trail_snoc, M.hear_fst]
    by_cases he : L.getD (m + 1) 0 = k.last.1
    · have e1 : k.take (L.getD (m + 1) 0) = (k, 3) := by unfold Wk.take; rw [if_pos ⟨hd, he⟩]
      have e2 : (sw L (m + 1 + 1)).1 = 3 := by
        rw [hs]; show (if (sw L (m + 1)).2.2 = true then _ else _) = 3
        rw [if_pos hsd, if_pos (by rw [he, hlast]; rfl)]
      have e3 : (sw L (m + 1 + 1)).2.1 = (sw L (m + 1)).2.1 := by
        rw [hs]; show (if (sw L (m + 1)).2.2 = true then _ else _) = _
        rw [if_pos hsd]
      rw [e1, e2, e3]
      refine ⟨rfl, h.rel.toVals, fun hg => ?_⟩
      cases hg
    · have e1 : k.take (L.getD (m + 1) 0) = (k.heard (L.getD (m + 1) 0), 0) := by unfold Wk.take; rw [if_neg (fun a => he a.2), if_pos hd]
      have e2 : (sw L (m + 1 + 1)).1 = 0 := by
        rw [hs]; show (if (sw L (m + 1)).2.2 = true then _ else _) = 0
        rw [if_pos hsd, if_neg (by rw [Nat.add_sub_cancel, ← hlast]; exact he)]
      have e3 : (sw L (m + 1 + 1)).2.1 = (sw L (m + 1)).2.1 := by
        rw [hs]; show (if (sw L (m + 1)).2.2 = true then _ else _) = _
        rw [if_pos hsd]
      have e4 : (sw L (m + 1 + 1)).2.2 = (dueF (fun t => L.getD t 0) (m + 1 + 1) && (decide (fieldL (sw L (m + 1 + 1)).2.1 ≤ 10) || decide (fieldL (sw L (m + 1 + 1)).2.1 = 11))) := rfl
      rw [e1, e2, e3]
      have hr := h.rel.heard (L.getD (m + 1) 0)
      have hl2 : (k.heard (L.getD (m + 1) 0)).last = M.trail (L.take (m + 1 + 1)) := ht.symm
      have hrun2 : (k.heard (L.getD (m + 1) 0)).field ≤ 11 → (k.heard (L.getD (m + 1) 0)).last.2 ≤ 5 := by
        intro _
        show (M.hear k.last _).2 ≤ 5
        unfold M.hear
        rw [if_neg he]
        show 1 ≤ 5
        decide
      refine ⟨rfl, hr.toVals, fun _ => ⟨?_, e2.symm, ?_, hl2, hrun2, h.inn⟩⟩
      · rw [e3]; exact hr.code 0
      · rw [e4, e3]
        exact due_eq L hL (m + 1 + 1) hi (k.heard (L.getD (m + 1) 0)) _ hr hl2 hrun2
  · have hsd : ¬ (sw L i).2.2 = true := by rw [← h.due]; exact hd
    have e1 : k.take (L.getD i 0) = (((k.heard (L.getD i 0)).keep (L.getD i 0 - 48)).adv, (k.heard (L.getD i 0)).plainCode (L.getD i 0 - 48)) := by
      unfold Wk.take; rw [if_neg (fun a => hd a.1), if_neg hd]
    have e2 : (sw L (i + 1)).1 = lookL (sw L i).2.1 (L.getD i 0) := by
      rw [hs]; show (if (sw L i).2.2 = true then _ else _) = _
      rw [if_neg hsd]
    have e3 : (sw L (i + 1)).2.1 = (sw L i).2.1 ++ [L.getD i 0] := by
      rw [hs]; show (if (sw L i).2.2 = true then _ else _) = _
      rw [if_neg hsd]
    have e4 : (sw L (i + 1)).2.2 = (dueF (fun t => L.getD t 0) (i + 1) && (decide (fieldL (sw L (i + 1)).2.1 ≤ 10) || decide (fieldL (sw L (i + 1)).2.1 = 11))) := rfl
    have hr := rel_step _ _ _ hc (h.rel.heard (L.getD i 0)) hlen
    have hlk := look_eq (h.rel.heard (L.getD i 0)) (sw_small L hL i (by omega)) (L.getD i 0) hc
    have hl2 : (((k.heard (L.getD i 0)).keep (L.getD i 0 - 48)).adv).last = M.trail (L.take (i + 1)) := by rw [Wk.keepadv_last]; exact ht.symm
    have hrun2 : (((k.heard (L.getD i 0)).keep (L.getD i 0 - 48)).adv).field ≤ 11 → (((k.heard (L.getD i 0)).keep (L.getD i 0 - 48)).adv).last.2 ≤ 5 := by
      intro hf
      have h1 := adv_field_ge (k.heard (L.getD i 0)) (L.getD i 0 - 48)
      have h2 : k.field ≤ 11 := Nat.le_trans h1 hf
      rw [Wk.keepadv_last]
      show (M.hear k.last _).2 ≤ 5
      have h3 := M.hear_le k.last (L.getD i 0)
      have h4 := h.run h2
      have h5 : ¬ k.last.2 = 5 := fun e => hd (by simp [Wk.due, h2, e])
      omega
    rw [e1, e3]
    refine ⟨by rw [e2]; exact hlk, hr.toVals, fun hg => ⟨?_, by rw [e2]; exact hlk, ?_, hl2, hrun2, ?_⟩⟩
    · rw [e3]; exact hr.code _
    · rw [e4, e3]
      exact due_eq L hL (i + 1) hi (((k.heard (L.getD i 0)).keep (L.getD i 0 - 48)).adv) _ hr hl2 hrun2
    · show (((k.heard (L.getD i 0)).keep (L.getD i 0 - 48)).adv).field ≤ 14
      rw [hr.field]
      have hH := layH_or (sw L i).2.1
      have hE := layH_le (sw L i).2.1
      have a := fN15 ((sw L i).2.1 ++ [L.getD i 0]).length _ _ (layH_or ((sw L i).2.1 ++ [L.getD i 0])) (layH_le ((sw L i).2.1 ++ [L.getD i 0]))
      rw [List.length_append, List.length_singleton] at a ⊢
      refine Classical.byContradiction fun hno => ?_
      have hno := a.1 hno
      have hH' := layH_or ((sw L i).2.1 ++ [L.getD i 0])
      have hE' := layH_le ((sw L i).2.1 ++ [L.getD i 0])
      have b1 : layH (sw L i).2.1 ≤ (sw L i).2.1.length := by
        have := layH_snoc (sw L i).2.1 (L.getD i 0) (by omega)
        omega
      have b2 := endL_snoc (sw L i).2.1 (L.getD i 0) b1
      have b3 : (sw L i).2.1.length = endL (sw L i).2.1 + 24 := by omega
      have b4 : fieldL (sw L i).2.1 = 14 := by rw [fieldL_eq, fN14 _ _ _ hH hE]; omega
      rw [e2] at hg
      unfold lookL at hg
      rw [b4, layL2 b1] at hg
      simp [b3, goesOnB] at hg
      split at hg <;> omega

theorem Vals.code {k : Wk} {p : List Nat} (h : Vals k p) (c : Nat) : Vals { k with code := c } p := { ext := h.ext, rtr := h.rtr, dlc := h.dlc, sum := h.sum, crc := h.crc, id := h.id, data := h.data }
theorem walk_side (L : List Nat) (hL : ∀ x ∈ L, M.isL x) : ∀ f i (k : Wk), i + f = L.length → Side L i k → goesOnB (sw L i).1 = true →
    (k.over (L.drop i)).code = (swF L f i).1 ∧ (goesOnB (swF L f i).1 = true → (k.over (L.drop i)).field = fieldL (swF L f i).2.1 ∧ (k.over (L.drop i)).due = (swF L f i).2.2 ∧ (k.over (L.drop i)).crcOk = crcOkL (swF L f i).2.1) ∧
    ((swF L f i).1 ≠ 7 → Vals (k.over (L.drop i)) (swF L f i).2.1)
  | 0, i, k, hi, h, hg => by
    rw [List.drop_eq_nil_of_le (by omega)]
    show k.code = (sw L i).1 ∧ (_ → k.field = fieldL (sw L i).2.1 ∧ k.due = (sw L i).2.2 ∧ k.crcOk = crcOkL (sw L i).2.1) ∧ (_ → Vals k (sw L i).2.1)
    exact ⟨h.code, fun _ => ⟨by rw [fieldL_eq, h.rel.field], h.due, crcOk_eq h.rel (sw_small L hL i (by omega))⟩, fun _ => h.rel.toVals⟩
  | f + 1, i, k, hi, h, hg => by
    have hlt : i < L.length := by omega
    have e : L.getD i 0 = L[i] := by simp [hlt]
    obtain ⟨s1, s2, s3⟩ := side_step L hL i hlt k h
    have ed : L.drop i = L.getD i 0 :: L.drop (i + 1) := by rw [e]; exact List.drop_eq_getElem_cons hlt
    have eF : swF L (f + 1) i = swF L f (i + 1) := by
      show (if goesOnB (sw L i).1 = true then _ else _) = _
      rw [if_pos hg]
    rw [ed, eF]
    have eo : k.over (L.getD i 0 :: L.drop (i + 1)) = if goesOnB (k.take (L.getD i 0)).2 = true then Wk.over { (k.take (L.getD i 0)).1 with code := (k.take (L.getD i 0)).2 } (L.drop (i + 1))
      else if L.drop (i + 1) = [] then { (k.take (L.getD i 0)).1 with code := (k.take (L.getD i 0)).2 } else { (k.take (L.getD i 0)).1 with code := 7 } := rfl
    rw [eo]
    by_cases hg2 : goesOnB (sw L (i + 1)).1 = true
    · rw [if_pos (by rw [s1]; exact hg2)]
      exact walk_side L hL f (i + 1) _ (by omega) (s3 hg2) hg2
    · rw [if_neg (by rw [s1]; exact hg2)]
      cases f with
      | zero =>
        rw [if_pos (List.drop_eq_nil_of_le (by omega))]
        show (k.take (L.getD i 0)).2 = (sw L (i + 1)).1 ∧ (goesOnB (sw L (i + 1)).1 = true → _) ∧ (_ → Vals _ (sw L (i + 1)).2.1)
        exact ⟨s1, fun a => absurd a hg2, fun _ => s2.code _⟩
      | succ f =>
        have hne : ¬ L.drop (i + 1) = [] := by rw [List.drop_eq_nil_iff]; omega
        have eF2 : swF L (f + 1) (i + 1) = (7, (sw L (i + 1)).2.1, false) := by
          show (if goesOnB (sw L (i + 1)).1 = true then _ else _) = _
          rw [if_neg hg2]
        rw [if_neg hne, eF2]
        refine ⟨rfl, fun a => ?_, fun a => absurd rfl a⟩
        cases a
theorem walk_all (L : List Nat) (hL : ∀ x ∈ L, M.isL x) :
    (Wk.init.over L).code = (swF L L.length 0).1 ∧ (goesOnB (swF L L.length 0).1 = true → (Wk.init.over L).field = fieldL (swF L L.length 0).2.1 ∧ (Wk.init.over L).due = (swF L L.length 0).2.2 ∧ (Wk.init.over L).crcOk = crcOkL (swF L L.length 0).2.1) ∧
    ((swF L L.length 0).1 ≠ 7 → Vals (Wk.init.over L) (swF L L.length 0).2.1) := by
  have := walk_side L hL L.length 0 Wk.init (by omega) (side0 L) rfl
  rwa [List.drop_zero] at this
end Go.Proofs.Ytnefmdjodjpopaa
