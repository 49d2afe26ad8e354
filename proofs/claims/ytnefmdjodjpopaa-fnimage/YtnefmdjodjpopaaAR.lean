import Derived.Test.YtnefmdjodjpopaaAQ
namespace Go.Proofs.Ytnefmdjodjpopaa

/-- what holds of every walk that goes on -/
structure Wk.Inv (k : Wk) : Prop where
  f1 : 1 ≤ k.field
  f2 : k.field ≤ 14
  tk : k.taken < k.fsize k.field
  sm : k.sum < 32768
  idb : k.id < 2 ^ (if k.field = 1 then 0 else if k.field = 2 then k.taken else if k.field ≤ 4 then 11 else if k.field = 5 then 11 + k.taken else 29)
  dlb : k.dlc < 2 ^ (if k.field < 8 then 0 else if k.field = 8 then k.taken else 4)
  crb : k.crc < 2 ^ (if k.field < 10 then 0 else if k.field = 10 then k.taken else 15)
  dan : k.field < 9 → k.data = []
  dat : k.field = 9 → k.data.length = (k.taken + 7) / 8
  dal : k.data.length ≤ 8
  das : ∀ x ∈ k.data, x < 256
theorem dlen_le (k : Wk) : k.dlen ≤ 8 := by unfold Wk.dlen; split <;> omega
theorem fsize_le (k : Wk) (f : Nat) : k.fsize f ≤ 64 := by
  have := dlen_le k
  unfold Wk.fsize
  (repeat' split) <;> omega
theorem pow_le29 (n : Nat) (h : n ≤ 29) : 2 ^ n ≤ 536870912 := Nat.le_trans (Nat.pow_le_pow_right (by decide) h) (by decide)
theorem Wk.Inv.ok {k : Wk} (h : k.Inv) (hr : k.last.2 ≤ 50000) : wkOk k := by
  have ht := fsize_le k k.field
  have ht2 := h.tk
  refine ⟨hr, h.sm, ?_, ?_, ?_, by omega, by have := h.f2; omega, fun h9 => ⟨by have := h.dal; omega, ?_, h.das⟩⟩
  · refine Nat.lt_of_lt_of_le h.idb (Nat.le_trans (pow_le29 _ ?_) (by decide))
    have h3 := h.f2
    split
    · omega
    · split
      · rename_i h2
        rw [h2] at ht2
        have : k.fsize 2 = 11 := rfl
        omega
      · split
        · omega
        · split
          · rename_i h5
            rw [h5] at ht2
            have : k.fsize 5 = 18 := rfl
            omega
          · omega
  · have hb := h.dlb
    refine Nat.le_of_lt_succ (Nat.lt_of_lt_of_le hb ?_)
    split
    · decide
    · split
      · rename_i h8
        rw [h8] at ht2
        have : k.fsize 8 = 4 := rfl
        exact Nat.le_trans (Nat.pow_le_pow_right (by decide) (show k.taken ≤ 4 by omega)) (by decide)
      · decide
  · have hb := h.crb
    refine Nat.lt_of_lt_of_le hb ?_
    split
    · decide
    · split
      · rename_i h10
        rw [h10] at ht2
        have : k.fsize 10 = 15 := rfl
        exact Nat.le_trans (Nat.pow_le_pow_right (by decide) (show k.taken ≤ 15 by omega)) (by decide)
      · decide
  · intro h8 e
    have := h.dat h9
    rw [e] at this
    simp at this
    omega
end Go.Proofs.Ytnefmdjodjpopaa
