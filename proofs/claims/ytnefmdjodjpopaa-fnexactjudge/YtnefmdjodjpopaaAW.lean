import Derived.Test.YtnefmdjodjpopaaAU
namespace Go.Proofs.Ytnefmdjodjpopaa
open Go.RowKit

/-- the number that letters stand for -/
def valStep (v c : Nat) : Nat := 2 * v + (if c = 49 then 1 else 0)
def valL (l : List Nat) : Nat := l.foldl valStep 0
theorem valL_snoc (l : List Nat) (c : Nat) : valL (l ++ [c]) = valStep (valL l) c := by unfold valL; rw [List.foldl_append]; rfl
theorem valL_lt (l : List Nat) : valL l < 2 ^ l.length := by
  induction l using M.snoc_ind with
  | h0 => decide
  | h1 l a ih =>
    rw [valL_snoc, List.length_append, List.length_singleton, Nat.pow_succ]
    unfold valStep
    split <;> omega

theorem l1val_any (s : ByteArray) (w : World) (hs : s.size ≤ 40) :
    Calls Try.prog 82 #[.string s] w fun e w' => e = .returned (.int .i64 (valL (lt s) : Nat)) ∧ w = w' := by
  have hs' : s.size ≤ maxLen := by unfold maxLen; omega
  go_enter Try.func82, Try.ntmps82
  go_wp2
  go_loopw [3, 4] (fun v i wr => ∃ k : Nat, k ≤ s.size ∧ i = .int .i64 k ∧ v = .int .i64 (valL ((lt s).take k) : Nat) ∧ wr = w) (fun _ i _ => s.size - (intOf i).toNat)
  case atStart => exact ⟨0, Nat.zero_le _, rfl, rfl, rfl⟩
  case round =>
    obtain ⟨k, hk, rfl, rfl, rfl⟩ := hrel
    by_cases hlt : k < s.size
    · have hb : valL ((lt s).take k) < 1099511627776 := by
        have h1 := valL_lt ((lt s).take k)
        rw [List.length_take, lt_length] at h1
        exact Nat.lt_of_lt_of_le h1 (Nat.le_trans (Nat.pow_le_pow_right (by decide) (show min k s.size ≤ 40 by omega)) (by decide))
      have HS : Hid (valL ((lt s).take (k + 1)) = valStep (valL ((lt s).take k)) s[k].toNat) := by rw [lt_snoc s k hlt, valL_snoc]; exact rfl
      generalize valL ((lt s).take k) = v at *
      by_cases hc : s[k].toNat = 49
      · have HS' : Hid (valL ((lt s).take (k + 1)) = 2 * v + 1) := by rw [HS.out]; unfold valStep; rw [if_pos hc]; exact rfl
        have hc' : ((s[k].toNat : Int) == 49) = true := by simp; omega
        clear HS hc
        go_wp2
        go_roundw
        case rel => exact ⟨k + 1, by omega, by go_num, by rw [HS'.out]; go_num, trivial⟩
        case measure => simp [intOf]; omega
      · have HS' : Hid (valL ((lt s).take (k + 1)) = 2 * v) := by rw [HS.out]; unfold valStep; rw [if_neg hc]; exact rfl
        have hc' : ((s[k].toNat : Int) == 49) = false := by simp; omega
        clear HS hc
        go_wp2
        go_roundw
        case rel => exact ⟨k + 1, by omega, by go_num, by rw [HS'.out]; go_num, trivial⟩
        case measure => simp [intOf]; omega
    · have hke : (lt s).take k = lt s := List.take_of_length_le (by rw [lt_length]; omega)
      rw [hke]
      generalize hv : valL (lt s) = v at *
      have HV : Hid (valL (lt s) = v) := hv
      clear hv hke
      go_wp2
      go_ret
      exact ⟨by rw [HV.out]; rfl, rfl⟩
end Go.Proofs.Ytnefmdjodjpopaa
