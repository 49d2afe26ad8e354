namespace Go.Proofs.YtfbeaekddgpmmaaGreatDoor.J.M
/-- one bit into the register of fifteen -/
def stepN (r b : Nat) : Nat := if b ≠ r / 16384 then ((2 * r) % 32768) ^^^ 17817 else (2 * r) % 32768
def crcN (l : List Nat) : Nat := l.foldl stepN 0
def mb (l : List Nat) (j : Nat) : Bool := l.getD j 0 == 1
/-- what stands at place j of the long division behind i rounds -/
def V (l : List Nat) (i j : Nat) : Bool := if j < i then false else mb l j ^^ (decide (j < i + 15) && (crcN (l.take i)).testBit (14 - (j - i)))
/-- the row of equal letters heard last: its letter, its length -/
def hear (r : Nat × Nat) (c : Nat) : Nat × Nat := if c = r.1 then (r.1, r.2 + 1) else (c, 1)
def trail (l : List Nat) : Nat × Nat := l.foldl hear (0, 0)
def isL (c : Nat) : Prop := c = 48 ∨ c = 49
theorem trail_snoc (l : List Nat) (c : Nat) : trail (l ++ [c]) = hear (trail l) c := by simp [trail]
theorem hear_le (r : Nat × Nat) (c : Nat) : (hear r c).2 ≤ r.2 + 1 := by
  unfold hear; split
  · exact Nat.le_refl _
  · exact Nat.succ_le_succ (Nat.zero_le _)
end Go.Proofs.YtfbeaekddgpmmaaGreatDoor.J.M
