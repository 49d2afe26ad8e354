import Derived.Test.YtnefmdjodjpopaaQ
namespace Go.Proofs.Ytnefmdjodjpopaa
open Go.RowKit
namespace M
/-- the number v as n letters, the highest first -/
def num (v : Nat) : Nat → List Nat
  | 0 => []
  | n + 1 => num (v / 2) n ++ [48 + v % 2]
theorem num_length (n v : Nat) : (num v n).length = n := by
  induction n generalizing v with
  | zero => rfl
  | succ n ih => simp [num, ih]
theorem num_isL (n v : Nat) : ∀ x ∈ num v n, isL x := by
  induction n generalizing v with
  | zero => intro x hx; cases hx
  | succ n ih =>
    intro x hx
    simp only [num, List.mem_append, List.mem_singleton] at hx
    rcases hx with hx | rfl
    · exact ih _ x hx
    · unfold isL; omega
theorem num_split (b v : Nat) : ∀ a, num v (a + b) = num (v / 2 ^ b) a ++ num v b := by
  induction b generalizing v with
  | zero => intro a; simp [num]
  | succ b ih =>
    intro a
    have e1 : a + (b + 1) = (a + b) + 1 := by omega
    have e2 : v / 2 ^ (b + 1) = v / 2 / 2 ^ b := by rw [Nat.pow_succ, Nat.mul_comm, Nat.div_div_eq_div_mul]
    rw [e1, num, ih, num, e2, List.append_assoc]
end M
theorem strN_append (l m : List Nat) : strN l ++ strN m = strN (l ++ m) := by
  unfold strN
  apply ByteArray.ext
  simp
theorem strN_size (l : List Nat) : (strN l).size = l.length := by
  unfold strN; simp [ByteArray.size]

set_option maxHeartbeats 400000 in
theorem num_any (n : Nat) : ∀ (v : Nat) (w : World), n ≤ 64 → v < 4611686018427387904 →
    Calls Try.prog 62 #[.int .i64 v, .int .i64 n] w fun o w' => o = .returned (.string (strN (M.num v n))) ∧ w = w' := by
  induction n with
  | zero =>
    intro v w _ hv
    go_enter Try.func62, Try.ntmps62
    go_wp2
    go_ret
    exact ⟨rfl, rfl⟩
  | succ n ih =>
    intro v w hn hv
    have IH : Hid (∀ (v : Nat) (w : World), n ≤ 64 → v < 4611686018427387904 → Calls Try.prog 62 #[.int .i64 v, .int .i64 n] w fun o w' => o = .returned (.string (strN (M.num v n))) ∧ w = w') := ih
    clear ih
    have hl : (strN (M.num (v / 2) n)).size ≤ 64 := by rw [strN_size, M.num_length]; omega
    by_cases hb : v % 2 = 1
    · have hb' : (((v : Int) % 2) == 1) = true := by simp; omega
      have HE : Hid (strN (M.num v (n + 1)) = strN (M.num (v / 2) n) ++ strN [49]) := by rw [strN_append, M.num, hb]; exact rfl
      clear hb
      go_enter Try.func62, Try.ntmps62
      go_wp2_with fail
      refine (IH.out (v / 2) _ (by omega) (by omega)).mono ?_
      rintro o w1 ⟨rfl, rfl⟩
      go_wp2
      go_ret
      exact ⟨ret_str HE.out.symm, rfl⟩
    · have hb' : (((v : Int) % 2) == 1) = false := by simp; omega
      have hb0 : v % 2 = 0 := by omega
      have HE : Hid (strN (M.num v (n + 1)) = strN (M.num (v / 2) n) ++ strN [48]) := by rw [strN_append, M.num, hb0]; exact rfl
      clear hb hb0
      go_enter Try.func62, Try.ntmps62
      go_wp2_with fail
      refine (IH.out (v / 2) _ (by omega) (by omega)).mono ?_
      rintro o w1 ⟨rfl, rfl⟩
      go_wp2
      go_ret
      exact ⟨ret_str HE.out.symm, rfl⟩
theorem flag_any (r : Bool) (w : World) : Calls Try.prog 63 #[.bool r] w fun o w' => o = .returned (.string (strN [48 + r.toNat])) ∧ w = w' := by
  cases r
  · go_enter Try.func63, Try.ntmps63
    go_wp2
    go_ret
    exact ⟨rfl, rfl⟩
  · go_enter Try.func63, Try.ntmps63
    go_wp2
    go_ret
    exact ⟨rfl, rfl⟩
end Go.Proofs.Ytnefmdjodjpopaa
