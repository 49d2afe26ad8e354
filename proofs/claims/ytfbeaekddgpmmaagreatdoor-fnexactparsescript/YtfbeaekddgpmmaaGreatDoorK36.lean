import Derived.Test.YtfbeaekddgpmmaaGreatDoorK15
import Derived.Test.YtfbeaekddgpmmaaGreatDoorK17
namespace Go.Proofs.YtfbeaekddgpmmaaGreatDoor
open Go.RowKit
set_option linter.unusedVariables false
/-- the words of a line, as strings.Fields finds them -/
theorem fields_fil : ∀ (l cur : List UInt8), (∀ b ∈ l, 32 ≤ b.toNat) → Lib.fieldsGo cur l = fil (cutA 32 cur l)
  | [], cur, _ => by
    unfold Lib.fieldsGo cutA fil
    cases cur <;> simp
  | b :: l, cur, h => by
    have hb := h b (by simp)
    have hl : ∀ x ∈ l, 32 ≤ x.toNat := fun x hx => h x (by simp [hx])
    have e : Lib.isSp b = decide (b = 32) := by
      unfold Lib.isSp
      by_cases hb2 : b = 32
      · subst hb2; decide
      · have hn : ∀ c : UInt8, c.toNat < 32 → (b == c) = false := fun c hc => by
          simp only [beq_eq_false_iff_ne, ne_eq]
          intro e; subst e; omega
        rw [hn 9 (by decide), hn 10 (by decide), hn 11 (by decide), hn 12 (by decide), hn 13 (by decide)]
        simp [hb2]
    unfold Lib.fieldsGo cutA
    rw [e]
    by_cases hb2 : b = 32
    · rw [fields_fil l [] hl]
      cases cur <;> simp [hb2, fil]
    · rw [fields_fil l (cur ++ [b]) hl]
      simp [hb2]
theorem fields_words (s : ByteArray) (h : ∀ b ∈ s.data.toList, 32 ≤ b.toNat) : Lib.fields s.data.toList = wordsB s := fields_fil _ _ h
end Go.Proofs.YtfbeaekddgpmmaaGreatDoor
