import Derived.Test.YtnefmdjodjpopaaBF
namespace Go.Proofs.Ytnefmdjodjpopaa
open Go.RowKit

/-- where a walk ends well, all of the frame is there -/
theorem sw12 (L : List Nat) (i : Nat) (h : (sw L i).1 = 1 ∨ (sw L i).1 = 2) : layH (sw L i).2.1 ≤ (sw L i).2.1.length ∧ endL (sw L i).2.1 + 24 ≤ (sw L i).2.1.length := by
  cases i with
  | zero => rcases h with h | h <;> cases h
  | succ i =>
    have hs : sw L (i + 1) = swStep L i (sw L i) := rfl
    have e2 : (sw L (i + 1)).1 = if (sw L i).2.2 = true then (if L.getD i 0 = L.getD (i - 1) 0 then 3 else 0) else lookL (sw L i).2.1 (L.getD i 0) := by rw [hs]; rfl
    have e3 : (sw L (i + 1)).2.1 = if (sw L i).2.2 = true then (sw L i).2.1 else (sw L i).2.1 ++ [L.getD i 0] := by rw [hs]; rfl
    rw [e2] at h
    rw [e3]
    by_cases hd : (sw L i).2.2 = true
    · rw [if_pos hd] at h
      split at h <;> omega
    · rw [if_neg hd] at h ⊢
      have hH := layH_or (sw L i).2.1
      have hE := layH_le (sw L i).2.1
      have hf := fieldL_eq (sw L i).2.1
      have hf14 := fN14 (sw L i).2.1.length _ _ hH hE
      rw [← hf] at hf14
      generalize (sw L i).2.1 = q at *
      generalize L.getD i 0 = c at *
      have h14 : fieldL q = 14 := by
        unfold lookL at h
        grind
      have hr := hf14.1 h14
      have e4 := layL2 (p := q) (by omega)
      have h23 : endL q + 23 ≤ q.length := by
        unfold lookL at h
        rw [h14, e4] at h
        simp at h
        grind
      rw [layH_snoc q c (by omega), endL_snoc q c (by omega), List.length_append, List.length_singleton]
      omega
theorem swF12 (L : List Nat) : ∀ f i, ((swF L f i).1 = 1 ∨ (swF L f i).1 = 2) → layH (swF L f i).2.1 ≤ (swF L f i).2.1.length ∧ endL (swF L f i).2.1 + 24 ≤ (swF L f i).2.1.length
  | 0, i => sw12 L i
  | f + 1, i => by
    rw [swF_succ]
    split
    · exact swF12 L f (i + 1)
    · intro h; rcases h with h | h <;> cases h
theorem swZ12 (s : ByteArray) (h : (swZ s).1 = 1 ∨ (swZ s).1 = 2) : layH (swZ s).2.1 ≤ (swZ s).2.1.length ∧ endL (swZ s).2.1 + 24 ≤ (swZ s).2.1.length := by
  unfold swZ at h ⊢
  split
  · rename_i hk
    rw [if_pos hk] at h
    exact swF12 _ _ _ h
  · rename_i hk
    rw [if_neg hk] at h
    rcases h with h | h <;> cases h
end Go.Proofs.Ytnefmdjodjpopaa
