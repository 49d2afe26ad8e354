import Derived.Test.YtihndnclplkleaaC
import Derived.Below
namespace Go.Proofs.Ytihndnclplkleaa
open Go.RowKit
theorem vp_neg (w : World) (N : Int) (a : Option Addr) (n cap : Nat) (h : N < 0) :
    Calls Try.prog 31 #[pkV N a n cap] w fun o w' => o = .returned (.bool false) ∧ w' = w.alloc (pkC N a n cap 27) := by
  go_enter Try.func31, Try.ntmps31
  go_wp2
  go_ret
  exact ⟨rfl, rfl⟩
theorem vp_big (w : World) (N : Int) (a : Option Addr) (n cap : Nat) (h0 : 0 ≤ N) (h : 4000 < N) :
    Calls Try.prog 31 #[pkV N a n cap] w fun o w' => o = .returned (.bool false) ∧ w' = w.alloc (pkC N a n cap 27) := by
  go_enter Try.func31, Try.ntmps31
  go_wp2
  go_ret
  exact ⟨rfl, rfl⟩
theorem vp_len (w : World) (N : Nat) (a : Option Addr) (n cap : Nat) (h : N ≤ 4000) (m : Nat) (hm : m ≤ 1048576) (hq : ((N : Int) + 64 - 1).tdiv 64 = (m : Int)) (hne : ((n : Int) != (m : Int)) = true) :
    Calls Try.prog 31 #[pkV (N : Int) a n cap] w fun o w' => o = .returned (.bool false) ∧ w' = w.alloc (pkC (N : Int) a n cap 27) := by
  go_enter Try.func31, Try.ntmps31
  go_wp2
  go_ret
  exact ⟨rfl, rfl⟩
theorem vp_even (w : World) (N : Nat) (a : Option Addr) (n cap : Nat) (h : N ≤ 4000) (hn : n ≤ 1048576) (hq : ((N : Int) + 64 - 1).tdiv 64 = (n : Int)) (hr : (N : Int).tmod 64 = 0) :
    Calls Try.prog 31 #[pkV (N : Int) a n cap] w fun o w' => o = .returned (.bool true) ∧ w' = w.alloc (pkC (N : Int) a n cap 27) := by
  go_enter Try.func31, Try.ntmps31
  go_wp2
  go_ret
  exact ⟨rfl, rfl⟩
set_option maxHeartbeats 1000000 in
set_option maxRecDepth 20000 in
theorem vp_odd (w : World) (N : Nat) (g off : Nat) (cap x : Nat) (hgz : g < w.heap.size) (hN : N ≤ 4000) (n1 : Nat) (hn : n1 + 1 ≤ 1048576) (hq : ((N : Int) + 64 - 1).tdiv 64 = ((n1 : Int) + 1))  (hc : w.cell? ⟨g, off + n1, none⟩ = some (.int .u64 (x : Int))) (r : Nat) (hr : (N : Int).tmod 64 = (r : Int)) (hr0 : ((r : Int) == 0) = false) (hr2 : r < 64) :
    Calls Try.prog 31 #[pkV (N : Int) (some ⟨g, off, none⟩) (n1 + 1) cap] w fun o w' => o = .returned (.bool (IntKind.u64.wrap ((x : Int) * 2 ^ r) == 0)) ∧ Below w.heap.size w w' := by
  go_enter Try.func31, Try.ntmps31
  go_wp2
  go_quiet (fail)
  go_wp2
  go_ret
  exact ⟨rfl, below_drewN ((Below.refl _ _).alloc (Nat.le_refl _) _) _⟩
theorem bit_test (x k : Nat) : (x / 2 ^ k % 2 = 0) ↔ x.testBit k = false := by
  rw [Nat.testBit_eq_decide_div_mod_eq]
  have : x / 2 ^ k % 2 < 2 := Nat.mod_lt _ (by decide)
  simp
theorem shl_zero (x r : Nat) (hr : r < 64) : (x * 2 ^ r % 2 ^ 64 = 0) ↔ ∀ j, r ≤ j → j < 64 → x / 2 ^ (63 - j) % 2 = 0 := by
  have e : (2 : Nat) ^ 64 = 2 ^ (64 - r) * 2 ^ r := by rw [← Nat.pow_add]; congr 1; omega
  rw [e, Nat.mul_mod_mul_right]
  have hp : 0 < 2 ^ r := Nat.pos_of_ne_zero (by simp)
  constructor
  · intro h j h1 h2
    rw [bit_test]
    have h0 : x % 2 ^ (64 - r) = 0 := by
      rcases Nat.mul_eq_zero.1 h with h | h
      · exact h
      · omega
    have := Nat.testBit_mod_two_pow x (64 - r) (63 - j)
    rw [h0, Nat.zero_testBit] at this
    have hd : decide (63 - j < 64 - r) = true := by simp; omega
    rw [hd, Bool.true_and] at this
    exact this.symm
  · intro h
    have h0 : x % 2 ^ (64 - r) = 0 := by
      apply Nat.eq_of_testBit_eq
      intro k
      rw [Nat.testBit_mod_two_pow, Nat.zero_testBit]
      by_cases hk : k < 64 - r
      · have := h (63 - k) (by omega) (by omega)
        rw [bit_test, show 63 - (63 - k) = k by omega] at this
        simp [this]
      · simp [hk]
    rw [h0, Nat.zero_mul]
theorem wrap_nat (x r : Nat) : IntKind.u64.wrap ((x : Int) * 2 ^ r) = ((x * 2 ^ r % 2 ^ 64 : Nat) : Int) := by
  have e : (x : Int) * 2 ^ r = ((x * 2 ^ r : Nat) : Int) := by push_cast; rfl
  rw [e]
  generalize x * 2 ^ r = y
  rw [IntKind.wrap_u64]
  omega
/-- the spare bits are 0 -/
def padB (l : List Nat) (N n : Nat) : Bool := (List.range (64 * n)).all fun i => decide (i < N) || decide (lev l i = 0)
theorem padB_iff {l : List Nat} {N n : Nat} : padB l N n = true ↔ ∀ i, N ≤ i → i < 64 * n → lev l i = 0 := by
  simp only [padB, List.all_eq_true, List.mem_range, Bool.or_eq_true, decide_eq_true_eq]
  constructor
  · intro h i h1 h2
    rcases h i h2 with h | h
    · omega
    · exact h
  · intro h i h2
    by_cases h1 : i < N
    · exact .inl h1
    · exact .inr (h i (by omega) h2)
def okP (N : Int) (l : List Nat) : Bool := decide (0 ≤ N) && decide (N ≤ 4000) && decide (l.length = (N.toNat + 63) / 64) && padB l N.toNat l.length
theorem validPacked_any (w : World) (N : Int) (a : Option Addr) (n cap : Nat) (l : List Nat) (h : isWords w a n cap l) (hn : n ≤ 1048576) :
    Calls Try.prog 31 #[pkV N a n cap] w fun o w' => o = .returned (.bool (okP N l)) ∧ Below w.heap.size w w' := by
  have hb1 : Below w.heap.size w (w.alloc (pkC N a n cap 27)) := (Below.refl _ _).alloc (Nat.le_refl _) _
  have hl := h.len
  by_cases h0 : 0 ≤ N
  case neg =>
    refine (vp_neg w N a n cap (by omega)).mono ?_
    rintro o w' ⟨rfl, rfl⟩
    exact ⟨ret_bool (by simp [okP, h0]), hb1⟩
  by_cases h1 : N ≤ 4000
  case neg =>
    refine (vp_big w N a n cap h0 (by omega)).mono ?_
    rintro o w' ⟨rfl, rfl⟩
    exact ⟨ret_bool (by simp [okP, h1]), hb1⟩
  obtain ⟨M, rfl⟩ : ∃ M : Nat, N = (M : Int) := ⟨N.toNat, by omega⟩
  have hq : ((M : Int) + 64 - 1).tdiv 64 = (((M + 63) / 64 : Nat) : Int) := by rw [Int.tdiv_eq_ediv_of_nonneg (by omega)]; omega
  have hr : (M : Int).tmod 64 = ((M % 64 : Nat) : Int) := by rw [Int.tmod_eq_emod_of_nonneg (by omega)]; omega
  by_cases h2 : n = (M + 63) / 64
  case neg =>
    refine (vp_len w M a n cap (by omega) ((M + 63) / 64) (by omega) hq (by simp; omega)).mono ?_
    rintro o w' ⟨rfl, rfl⟩
    refine ⟨ret_bool ?_, hb1⟩
    have : ¬ l.length = (M + 63) / 64 := by omega
    simp [okP, this]
  have e2 : l.length = (M + 63) / 64 := by omega
  have hok : okP (M : Int) l = padB l M l.length := by
    have h1' : M ≤ 4000 := by omega
    simp [okP, ← e2]
    omega
  rw [hok]
  by_cases h3 : M % 64 = 0
  · refine (vp_even w M a n cap (by omega) hn (by rw [hq, h2]) (by rw [hr, h3]; rfl)).mono ?_
    rintro o w' ⟨rfl, rfl⟩
    exact ⟨ret_bool (padB_iff.2 (fun i h4 h5 => by omega)).symm, hb1⟩
  · obtain ⟨n1, hn1⟩ : ∃ n1, n = n1 + 1 := ⟨n - 1, by omega⟩
    subst hn1
    have hne : l ≠ [] := by intro e; subst e; simp at hl
    obtain ⟨g, off, rfl, hc⟩ := h.cells hne
    have hgz : g < w.heap.size := World.block_lt_of_cell? w _ (hc 0 (by omega))
    refine (vp_odd w M g off cap (l[n1]'(by omega)) hgz (by omega) n1 hn (by rw [hq, ← h2]; push_cast; rfl) (hc n1 (by omega)) (M % 64) hr (by simp; omega) (by omega)).mono ?_
    rintro o w' ⟨rfl, hb⟩
    refine ⟨ret_bool ?_, hb⟩
    have hlev : ∀ i, M ≤ i → i < 64 * l.length → lev l i = (l[n1]'(by omega)) / 2 ^ (63 - i % 64) % 2 := by
      intro i h4 h5
      have : i / 64 = n1 := by omega
      unfold lev
      rw [this, getD_at l n1 (by omega)]
    rw [Bool.eq_iff_iff, padB_iff, wrap_nat, beq_iff_eq]
    have hz : (((l[n1]'(by omega)) * 2 ^ (M % 64) % 2 ^ 64 : Nat) : Int) = 0 ↔ (l[n1]'(by omega)) * 2 ^ (M % 64) % 2 ^ 64 = 0 := by omega
    rw [hz, shl_zero _ _ (by omega)]
    constructor
    · intro hh i h4 h5
      rw [hlev i h4 h5]
      exact hh (i % 64) (by omega) (by omega)
    · intro hh j h4 h5
      have := hh (64 * n1 + j) (by omega) (by omega)
      rw [hlev _ (by omega) (by omega), show (64 * n1 + j) % 64 = j by omega] at this
      exact this
end Go.Proofs.Ytihndnclplkleaa
