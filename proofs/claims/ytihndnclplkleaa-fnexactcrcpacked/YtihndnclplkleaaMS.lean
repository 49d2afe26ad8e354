import Derived.Test.YtihndnclplkleaaM
namespace Go.Proofs.Ytihndnclplkleaa.M
set_option linter.unusedVariables false
theorem dbl_xor (r s : Nat) : (2 * (r ^^^ s)) % 32768 = ((2 * r) % 32768) ^^^ ((2 * s) % 32768) := by
  have e : 2 * (r ^^^ s) = (2 * r) ^^^ (2 * s) := by
    apply Nat.eq_of_testBit_eq
    intro i
    cases i with
    | zero => simp
    | succ i => rw [Nat.testBit_xor, Nat.testBit_succ, Nat.testBit_succ, Nat.testBit_succ]; simp [Nat.testBit_xor]
  rw [e]
  exact Nat.xor_mod_two_pow (n := 15)
theorem top_xor (r s : Nat) (hr : r < 32768) (hs : s < 32768) : (r ^^^ s) / 16384 = (r / 16384 + s / 16384) % 2 := by
  have h1 : (r ^^^ s) / 16384 = (r / 16384) ^^^ (s / 16384) := by
    rw [show (16384 : Nat) = 2 ^ 14 from rfl, ← Nat.shiftRight_eq_div_pow, ← Nat.shiftRight_eq_div_pow, ← Nat.shiftRight_eq_div_pow, Nat.shiftRight_xor_distrib]
  rw [h1]
  have ht : r / 16384 = 0 ∨ r / 16384 = 1 := by omega
  have hu : s / 16384 = 0 ∨ s / 16384 = 1 := by omega
  rcases ht with h | h <;> rcases hu with h' | h' <;> rw [h, h'] <;> rfl
theorem stepN_lin (r s b : Nat) (hr : r < 32768) (hs : s < 32768) (hb : b < 2) : stepN (r ^^^ s) b = stepN r b ^^^ stepN s 0 := by
  have ht : r / 16384 = 0 ∨ r / 16384 = 1 := by omega
  have hu : s / 16384 = 0 ∨ s / 16384 = 1 := by omega
  have hx := top_xor r s hr hs
  have hd := dbl_xor r s
  have c1 : ∀ x y : Nat, x ^^^ 17817 ^^^ (y ^^^ 17817) = x ^^^ y := fun x y => by
    rw [Nat.xor_comm y, ← Nat.xor_assoc, Nat.xor_assoc x, Nat.xor_self, Nat.xor_zero]
  have c2 : ∀ x y : Nat, x ^^^ 17817 ^^^ y = x ^^^ y ^^^ 17817 := fun x y => by rw [Nat.xor_assoc, Nat.xor_comm 17817, Nat.xor_assoc]
  have c3 : ∀ x y : Nat, x ^^^ (y ^^^ 17817) = x ^^^ y ^^^ 17817 := fun x y => by rw [Nat.xor_assoc]
  unfold stepN
  rw [hx, hd]
  rcases (show b = 0 ∨ b = 1 by omega) with rfl | rfl <;> rcases ht with h | h <;> rcases hu with h' | h' <;> rw [h, h'] <;> simp [c1, c2, c3]
/-- eight bits into the register, the highest of them first -/
def oct (o : Nat) : List Nat := [o / 128 % 2, o / 64 % 2, o / 32 % 2, o / 16 % 2, o / 8 % 2, o / 4 % 2, o / 2 % 2, o % 2]
def S8 (r o : Nat) : Nat := (oct o).foldl stepN r
def tabN (k : Nat) : Nat := S8 (128 * k) 0
theorem foldN_lt (bs : List Nat) : ∀ r, r < 32768 → bs.foldl stepN r < 32768 := by
  induction bs with
  | nil => intro r h; exact h
  | cons b bs ih => intro r h; exact ih _ (stepN_lt _ _)
theorem foldN_lin (bs : List Nat) (hb : ∀ x ∈ bs, x < 2) : ∀ r s, r < 32768 → s < 32768 → bs.foldl stepN (r ^^^ s) = bs.foldl stepN r ^^^ (bs.map fun _ => 0).foldl stepN s := by
  induction bs with
  | nil => intro r s _ _; rfl
  | cons b bs ih =>
    intro r s hr hs
    show bs.foldl stepN (stepN (r ^^^ s) b) = _
    rw [stepN_lin r s b hr hs (hb b (by simp))]
    exact ih (fun x hx => hb x (by simp [hx])) _ _ (stepN_lt _ _) (stepN_lt _ _)
theorem oct_bits (o : Nat) : ∀ x ∈ oct o, x < 2 := by
  intro x hx
  simp only [oct, List.mem_cons, List.not_mem_nil, or_false] at hx
  omega
theorem S8_lt (r o : Nat) (h : r < 32768) : S8 r o < 32768 := foldN_lt _ _ h
theorem S8_lin (r s o : Nat) (hr : r < 32768) (hs : s < 32768) : S8 (r ^^^ s) o = S8 r o ^^^ S8 s 0 := foldN_lin (oct o) (oct_bits o) r s hr hs
set_option maxRecDepth 100000 in
theorem S8_zero : ∀ o, o < 256 → S8 0 o = tabN o := by decide
set_option maxRecDepth 100000 in
theorem S8_low : ∀ l, l < 128 → S8 l 0 = 256 * l := by decide
set_option maxRecDepth 100000 in
theorem tab_lt (k : Nat) (h : k < 256) : tabN k < 32768 := S8_lt _ _ (by omega)
theorem mul_xor (a b : Nat) : 128 * (a ^^^ b) = (128 * a) ^^^ (128 * b) := by
  have e : ∀ x : Nat, 128 * x = x <<< 7 := fun x => by rw [Nat.shiftLeft_eq]; omega
  rw [e, e, e, Nat.shiftLeft_xor_distrib]
theorem tab_xor (h o : Nat) (hh : h < 256) (ho : o < 256) : tabN (h ^^^ o) = tabN h ^^^ tabN o := by
  unfold tabN
  rw [mul_xor]
  exact S8_lin (128 * h) (128 * o) 0 (by omega) (by omega)
theorem split_xor (r : Nat) : r = (128 * (r / 128)) ^^^ (r % 128) := by
  have h := Nat.two_pow_add_eq_or_of_lt (i := 7) (b := r % 128) (by omega) (r / 128)
  have h2 : 2 ^ 7 * (r / 128) ||| r % 128 = (2 ^ 7 * (r / 128)) ^^^ (r % 128) := by
    apply Nat.eq_of_testBit_eq
    intro i
    rw [Nat.testBit_or, Nat.testBit_xor]
    by_cases hi : i < 7
    · have : (2 ^ 7 * (r / 128)).testBit i = false := by
        rw [Nat.testBit_two_pow_mul]; simp; omega
      rw [this]; simp
    · have : (r % 128).testBit i = false := by
        rw [show (128 : Nat) = 2 ^ 7 from rfl, Nat.testBit_mod_two_pow]; simp; omega
      rw [this]; simp
  have h3 : 2 ^ 7 * (r / 128) + r % 128 = r := by omega
  rw [h3, h2] at h
  exact h
theorem S8_tab (r o : Nat) (hr : r < 32768) (ho : o < 256) : S8 r o = (r * 256 % 32768) ^^^ tabN ((r / 128) ^^^ o) := by
  have e0 : S8 r o = S8 0 o ^^^ S8 r 0 := by
    have := S8_lin 0 r o (by decide) hr
    rw [Nat.zero_xor] at this
    exact this
  have e1 : S8 r 0 = tabN (r / 128) ^^^ 256 * (r % 128) := by
    have h1 := S8_lin (128 * (r / 128)) (r % 128) 0 (by omega) (by omega)
    rw [← split_xor r, S8_low (r % 128) (by omega)] at h1
    exact h1
  have e2 : r * 256 % 32768 = 256 * (r % 128) := by omega
  rw [e0, e1, e2, S8_zero o ho, tab_xor _ _ (by omega) ho, Nat.xor_comm, Nat.xor_comm (tabN (r / 128)) (256 * (r % 128)), Nat.xor_assoc]
/-- the register that the table's filling has at the power j -/
def regN : Nat → Nat
  | 0 => 16384
  | j + 1 => stepN (regN j) 0
theorem regN_lt (j : Nat) : regN j < 32768 := by
  cases j with
  | zero => decide
  | succ j => exact stepN_lt _ _
set_option maxRecDepth 100000 in
theorem tab_fill : ∀ j, j < 8 → ∀ rest, rest < 128 → rest < 2 ^ j → tabN (2 ^ j ||| rest) = regN (j + 1) ^^^ tabN rest := by decide
theorem tab_zero : tabN 0 = 0 := by decide
end Go.Proofs.Ytihndnclplkleaa.M
