import Derived.Test.YtjfkdhnkjchkgaaGreatLE
namespace Go.Proofs.YtjfkdhnkjchkgaaGreat
open Go.RowKit
set_option linter.unusedVariables false
theorem less_lt (x y : List UInt8) : Op.bytesLess x y = decide (x < y) := by
  induction x generalizing y with
  | nil => cases y <;> simp [Op.bytesLess]
  | cons a x ih =>
    cases y with
    | nil => simp [Op.bytesLess]
    | cons b y =>
      rw [Op.bytesLess, ih]
      by_cases e : a = b <;> simp [List.cons_lt_cons_iff, e]
theorem cmpB_lt (x y : List UInt8) : (Lib.compareBytes x y = 0 ↔ x = y) ∧ (Lib.compareBytes x y < 0 ↔ Op.bytesLess x y = true) := by
  induction x generalizing y with
  | nil => cases y <;> simp [Lib.compareBytes, Op.bytesLess]
  | cons a x ih =>
    cases y with
    | nil => simp [Lib.compareBytes, Op.bytesLess]
    | cons b y =>
      have h1 := ih y
      rw [Lib.compareBytes, Op.bytesLess]
      by_cases hab : a < b
      · have hne : a ≠ b := fun h => by subst h; exact absurd hab (UInt8.lt_irrefl a)
        simp [hab, hne]
      · by_cases hba : b < a
        · have hne : a ≠ b := fun h => by subst h; exact absurd hba (UInt8.lt_irrefl a)
          simp [hab, hba, hne]
        · have he : a = b := UInt8.le_antisymm (UInt8.not_lt.1 hba) (UInt8.not_lt.1 hab)
          subst he
          simp [hab, h1.1, h1.2]
theorem cmpI (x y : Int) : (Lib.compareInt x y < 0 ↔ x < y) := by
  unfold Lib.compareInt
  split
  · simp_all
  · split <;> simp_all
/-- what goes ahead is a strict order -/
theorem befS_asymm {a b : R8} (h : befS a b = true) (h' : befS b a = true) : False := by
  unfold befS at h h'
  by_cases e : arbA a = arbA b
  · rw [if_pos e] at h; rw [if_pos e.symm] at h'; simp at h h'; omega
  · rw [if_neg e, less_lt] at h
    rw [if_neg (fun x => e x.symm), less_lt] at h'
    exact absurd (of_decide_eq_true h') (List.lt_asymm (of_decide_eq_true h))
theorem toList_ext {a b : ByteArray} (h : a.toList = b.toList) : a = b := by
  rw [ByteArray.toList_eq, ByteArray.toList_eq] at h
  exact ByteArray.ext (Array.toList_inj.1 h)
theorem befS_trans {a b c : R8} (h : befS a b = true) (h' : befS b c = true) : befS a c = true := by
  unfold befS at h h' ⊢
  by_cases e : arbA a = arbA b
  · rw [if_pos e] at h
    by_cases e' : arbA b = arbA c
    · rw [if_pos e'] at h'; rw [if_pos (e.trans e')]; simp at h h' ⊢; omega
    · rw [if_neg e'] at h'; rw [e, if_neg e']; exact h'
  · rw [if_neg e, less_lt] at h
    by_cases e' : arbA b = arbA c
    · rw [← e', if_neg e, less_lt]; exact h
    · rw [if_neg e', less_lt] at h'
      have h3 := List.lt_trans (of_decide_eq_true h) (of_decide_eq_true h')
      have hne : arbA a ≠ arbA c := fun x => by rw [x] at h3; exact absurd h3 (List.lt_irrefl _)
      rw [if_neg hne, less_lt]
      exact decide_eq_true h3
theorem befS_total {a b : R8} (hz : a.z ≠ b.z) (h : befS a b = false) : befS b a = true := by
  unfold befS at h ⊢
  by_cases e : arbA a = arbA b
  · rw [if_pos e] at h; rw [if_pos e.symm]; simp at h ⊢; omega
  · rw [if_neg e, less_lt] at h
    rw [if_neg (fun x => e x.symm), less_lt]
    have h1 := of_decide_eq_false h
    by_cases h2 : (arbA b).toList < (arbA a).toList
    · exact decide_eq_true h2
    · exact absurd (toList_ext (List.le_antisymm (List.not_lt.1 h2) (List.not_lt.1 h1))) e
/-- the box that goes ahead of every other waiting one -/
def isBest (bx : List R8) (i : Nat) : Prop := ∃ hi : i < bx.length, bx[i].x = 1 ∧ ∀ j (hj : j < bx.length), j ≠ i → bx[j].x = 1 → befS bx[i] bx[j] = true
def bestR (bx : List R8) (r : Int) : Prop := (r = -1 ∧ ∀ i, ¬ isBest bx i) ∨ ∃ i : Nat, r = i ∧ isBest bx i
theorem isBest_one {bx : List R8} {i j : Nat} (h : isBest bx i) (h' : isBest bx j) : i = j := by
  obtain ⟨hi, h1, h2⟩ := h
  obtain ⟨hj, h3, h4⟩ := h'
  by_cases e : i = j
  · exact e
  · exact absurd (befS_asymm (h2 j hj (fun x => e x.symm) h3) (h4 i hi e h1)) id
theorem bestR_one {bx : List R8} {r r' : Int} (h : bestR bx r) (h' : bestR bx r') : r = r' := by
  rcases h with ⟨rfl, h⟩ | ⟨i, rfl, h⟩
  · rcases h' with ⟨rfl, h'⟩ | ⟨i, rfl, h'⟩
    · rfl
    · exact absurd h' (h i)
  · rcases h' with ⟨rfl, h'⟩ | ⟨j, rfl, h'⟩
    · exact absurd h (h' i)
    · rw [isBest_one h h']
/-- the best so far -/
def bestK (bx : List R8) (k : Nat) (r : Int) : Prop := (r = -1 ∧ ∀ j (hj : j < bx.length), j < k → bx[j].x ≠ 1) ∨ ∃ i : Nat, r = i ∧ i < k ∧ ∃ hi : i < bx.length, bx[i].x = 1 ∧ ∀ j (hj : j < bx.length), j < k → j ≠ i → bx[j].x = 1 → befS bx[i] bx[j] = true
theorem bestK_end {bx : List R8} {k : Nat} {r : Int} (h : bestK bx k r) (hk : bx.length ≤ k) : bestR bx r := by
  rcases h with ⟨rfl, h⟩ | ⟨i, rfl, hik, hi, h1, h2⟩
  · exact Or.inl ⟨rfl, fun i hb => by obtain ⟨hi, h1, _⟩ := hb; exact h i hi (by omega) h1⟩
  · exact Or.inr ⟨i, rfl, hi, h1, fun j hj hne hw => h2 j hj (by omega) hne hw⟩
theorem bestK_skip {bx : List R8} {k : Nat} {r : Int} (h : bestK bx k r) (hk : k < bx.length) (hx : bx[k].x ≠ 1) : bestK bx (k + 1) r := by
  rcases h with ⟨rfl, h⟩ | ⟨i, rfl, hik, hi, h1, h2⟩
  · refine Or.inl ⟨rfl, fun j hj hjk => ?_⟩
    by_cases e : j = k
    · subst e; exact hx
    · exact h j hj (by omega)
  · refine Or.inr ⟨i, rfl, by omega, hi, h1, fun j hj hjk hne hw => ?_⟩
    by_cases e : j = k
    · subst e; exact absurd hw hx
    · exact h2 j hj (by omega) hne hw
theorem bestK_first {bx : List R8} {k : Nat} (h : bestK bx k (-1)) (hk : k < bx.length) (hx : bx[k].x = 1) : bestK bx (k + 1) k := by
  rcases h with ⟨_, h⟩ | ⟨i, h0, _⟩
  · refine Or.inr ⟨k, rfl, by omega, hk, hx, fun j hj hjk hne hw => absurd hw (h j hj (by omega))⟩
  · omega
theorem bestK_ahead {bx : List R8} {k i : Nat} (h : bestK bx k (i : Int)) (hk : k < bx.length) (hi : i < bx.length) (hx : bx[k].x = 1) (hb : befS bx[k] bx[i] = true) : bestK bx (k + 1) k := by
  rcases h with ⟨h0, _⟩ | ⟨i', h0, hik, hi', h1, h2⟩
  · omega
  · have : i' = i := by omega
    subst this
    refine Or.inr ⟨k, rfl, by omega, hk, hx, fun j hj hjk hne hw => ?_⟩
    by_cases e : j = i'
    · subst e; exact hb
    · exact befS_trans hb (h2 j hj (by omega) e hw)
theorem bestK_behind {st : Int} {bx : List R8} {k i : Nat} (hok : okBxs st bx) (h : bestK bx k (i : Int)) (hk : k < bx.length) (hi : i < bx.length) (hx : bx[k].x = 1) (hb : befS bx[k] bx[i] = false) : bestK bx (k + 1) i := by
  rcases h with ⟨h0, _⟩ | ⟨i', h0, hik, hi', h1, h2⟩
  · omega
  · have : i' = i := by omega
    subst this
    refine Or.inr ⟨i', rfl, by omega, hi, h1, fun j hj hjk hne hw => ?_⟩
    by_cases e : j = k
    · subst e
      exact befS_total (fun hz => (hok.2.1 i' j hi hj hik (by rw [h1]; decide) (by rw [hx]; decide)).2 hz.symm) hb
    · exact h2 j hj (by omega) hne hw
end Go.Proofs.YtjfkdhnkjchkgaaGreat
