import Derived.Test.YtjmlalojfghkiaaDoorD
namespace Go.Proofs.YtjmlalojfghkiaaDoor
open Go.RowKit
def verdZ (f lf cr ac bit : Int) : Int :=
  if f = 1 then (if bit = 1 then 4 else 0)
  else if f = 11 then (if bit = 0 then 4 else 0)
  else if f = 13 then (if bit = 0 then 4 else if ac = cr then 0 else 5)
  else if f = 14 then (if bit = 0 then (if lf > 1 then 4 else 6) else if lf = 2 then 1 else if lf = 1 then 2 else 0)
  else 0
def sizeZ (f : Int) (e : Bool) (d : Int) : Int :=
  if f = 2 then 11 else if f = 5 then 18 else if f = 7 then (if e = true then 2 else 1) else if f = 8 then 4
  else if f = 9 then (if d > 8 then 64 else 8 * d) else if f = 10 then 15 else if f = 14 then 7 else 1
def afterZ (f : Int) (e r : Bool) (d : Int) : Int :=
  if f = 4 ∧ e = false then 7 else if f = 8 ∧ (r = true ∨ d = 0) then 10 else f + 1
set_option maxHeartbeats 4000000 in
set_option maxRecDepth 20000 in
theorem l2verdict_any (w : World) (S : Sc) (a : Option Addr) (n cap : Nat) (bit : Int) :
    Calls Tryd.prog 21 #[scV S a n cap, .int .i64 bit] w fun o w' => o = .returned (.int .i64 (verdZ S.f S.lf S.cr S.ac bit)) ∧ Below w.heap.size w w' := by
  obtain ⟨f, lf, rn, lv, cr, ac, e, i, r, d, l⟩ := S
  go_enter Tryd.func21, Tryd.ntmps21
  go_wp2
  all_goals (go_ret; refine ⟨ret_int ?_, (Below.refl _ _).alloc (Nat.le_refl _) _⟩; unfold verdZ; simp_all)
set_option maxHeartbeats 4000000 in
theorem l2size_any (w : World) (f : Int) (e : Bool) (i : Nat) (r : Bool) (d : Int) (hd : 0 ≤ d) (hd1 : d ≤ 15) (a : Option Addr) (n cap : Nat) :
    Calls Tryd.prog 24 #[.int .i64 f, frV e i r d a n cap] w fun o w' => o = .returned (.int .i64 (sizeZ f e d)) ∧ Below w.heap.size w w' := by
  go_enter Tryd.func24, Tryd.ntmps24
  go_wp2
  all_goals (go_ret; refine ⟨ret_int ?_, (Below.refl _ _).alloc (Nat.le_refl _) _⟩; unfold sizeZ; first | (simp_all; done) | (simp_all; omega))
set_option maxHeartbeats 4000000 in
theorem l2after_any (w : World) (f : Int) (hf : 0 ≤ f) (hf1 : f ≤ 100) (e : Bool) (i : Nat) (r : Bool) (d : Int) (a : Option Addr) (n cap : Nat) :
    Calls Tryd.prog 25 #[.int .i64 f, frV e i r d a n cap] w fun o w' => o = .returned (.int .i64 (afterZ f e r d)) ∧ Below w.heap.size w w' := by
  cases e <;> cases r <;> go_enter Tryd.func25, Tryd.ntmps25
  all_goals go_wp2
  all_goals (go_ret; refine ⟨ret_int ?_, (Below.refl _ _).alloc (Nat.le_refl _) _⟩; unfold afterZ; simp_all)
/-- one bit into the register of fifteen -/
def stepN (r b : Nat) : Nat := if b ≠ r / 16384 then ((2 * r) % 32768) ^^^ 17817 else (2 * r) % 32768
theorem stepN_lt (r b : Nat) : stepN r b < 32768 := by
  unfold stepN
  split
  · exact Nat.xor_lt_two_pow (n := 15) (by omega) (by decide)
  · omega
theorem wraps_i64 (n : Int) (h0 : 0 ≤ n) (h1 : n < 2 ^ 62) : IntKind.i64.wrap n = n := by rw [IntKind.wrap_i64]; omega
theorem i64_mask (m : Nat) (hm : m ≤ 40) (n : Int) (h0 : 0 ≤ n) (h1 : n < 2 ^ 62) : bits .and .i64 n (2 ^ m - 1) = n % 2 ^ m :=
  bits_mask .i64 62 (by decide) wraps_i64 m (by omega) n h0 h1
theorem i64_mask15 (n : Int) (h0 : 0 ≤ n) (h1 : n < 2 ^ 62) : bits .and .i64 n 32767 = n % 32768 :=
  bits_mask .i64 62 (by decide) wraps_i64 15 (by decide) n h0 h1
theorem i64_xor_nat (a b : Nat) (ha : a < 2 ^ 62) (hb : b < 2 ^ 62) : bits .xor .i64 (a : Int) (b : Int) = ((a ^^^ b : Nat) : Int) :=
  by
  have hx : a ^^^ b < 2 ^ 62 := Nat.xor_lt_two_pow ha hb
  show IntKind.i64.wrap ((BitVec.ofInt 64 (a : Int) ^^^ BitVec.ofInt 64 (b : Int)).toNat : Int) = _
  rw [BitVec.toNat_xor, ofInt_u64 a (by omega), ofInt_u64 b (by omega), wraps_i64 _ (by omega) (by omega)]
theorem crcStep_yes (r b : Nat) (h1 : r < 32768) (h : ((b : Int) != (r : Int) / 16384) = true) :
    bits BinOp.xor IntKind.i64 (bits BinOp.and IntKind.i64 ((r : Int) * 2) 32767) 17817 = ((stepN r b : Nat) : Int) := by
  have h' : b ≠ r / 16384 := by
    intro e
    rw [bne_iff_ne] at h
    exact h (by omega)
  rw [i64_mask15 _ (by omega) (by omega)]
  have e : ((r : Int) * 2) % 32768 = ((2 * r % 32768 : Nat) : Int) := by omega
  rw [e, show (17817 : Int) = ((17817 : Nat) : Int) from rfl, i64_xor_nat _ _ (by omega) (by decide)]
  simp [stepN, h']
theorem crcStep_no (r b : Nat) (h1 : r < 32768) (h : ((b : Int) != (r : Int) / 16384) = false) :
    bits BinOp.and IntKind.i64 ((r : Int) * 2) 32767 = ((stepN r b : Nat) : Int) := by
  have h' : ¬ b ≠ r / 16384 := by
    intro e
    rw [bne_eq_false_iff_eq] at h
    exact e (by omega)
  rw [i64_mask15 _ (by omega) (by omega)]
  unfold stepN
  rw [if_neg h']
  omega
set_option maxHeartbeats 400000 in
theorem crcStep_any (r b : Nat) (w : World) (h1 : r < 32768) :
    Calls Tryd.prog 77 #[.int .i64 r, .int .i64 b] w fun e w' => e = .returned (.int .i64 (stepN r b : Nat)) ∧ w = w' := by
  go_enter Tryd.func77, Tryd.ntmps77
  go_wp2
  · have hc : ((b : Int) != (r : Int) / 16384) = true := by assumption
    go_ret
    exact ⟨ret_int (crcStep_yes r b h1 hc), rfl⟩
  · have hc : ((b : Int) != (r : Int) / 16384) = false := by assumption
    go_ret
    exact ⟨ret_int (crcStep_no r b h1 hc), rfl⟩
theorem l2x (r b : Nat) (h1 : r < 32768) (hb : b < 2) : bits BinOp.xor IntKind.i64 ((r : Int) / 16384) (b : Int) = if b ≠ r / 16384 then 1 else 0 := by
  rw [show (r : Int) / 16384 = ((r / 16384 : Nat) : Int) by omega, i64_xor_nat _ _ (by omega) (by omega)]
  have : r / 16384 < 2 := by omega
  generalize r / 16384 = y at *
  have hx : b = 0 ∨ b = 1 := by omega
  have hy : y = 0 ∨ y = 1 := by omega
  rcases hx with rfl | rfl <;> rcases hy with rfl | rfl <;> decide
set_option maxHeartbeats 400000 in
theorem l2crc_any (r b : Nat) (w : World) (h1 : r < 32768) (hb : b < 2) :
    Calls Tryd.prog 22 #[.int .i64 r, .int .i64 b] w fun e w' => e = .returned (.int .i64 (stepN r b : Nat)) ∧ w = w' := by
  have hx := l2x r b h1 hb
  by_cases h : b ≠ r / 16384
  · rw [if_pos h] at hx
    go_enter Tryd.func22, Tryd.ntmps22
    go_wp2
    go_ret
    refine ⟨ret_int ?_, rfl⟩
    have e : ((r : Int) * 2) % 32768 = ((2 * r % 32768 : Nat) : Int) := by omega
    rw [e, show (17817 : Int) = ((17817 : Nat) : Int) from rfl, i64_xor_nat _ _ (by omega) (by decide)]
    simp [stepN, h]
  · rw [if_neg h] at hx
    go_enter Tryd.func22, Tryd.ntmps22
    go_wp2
    go_ret
    refine ⟨ret_int ?_, rfl⟩
    unfold stepN
    rw [if_neg h]
    omega
end Go.Proofs.YtjmlalojfghkiaaDoor
