import Derived.Test.YtihndnclplkleaaD
namespace Go.Proofs.Ytihndnclplkleaa
open Go.RowKit
theorem so_neg (w : World) (N : Int) (a : Option Addr) (n cap : Nat) (h : N < 0) :
    Calls Try.prog 27 #[pkV N a n cap] w fun o w' => o = .returned (.bool false) ∧ w' = w.alloc (pkC N a n cap 27) := by
  go_enter Try.func27, Try.ntmps27
  go_wp2
  go_ret
  exact ⟨rfl, rfl⟩
theorem so_big (w : World) (N : Int) (a : Option Addr) (n cap : Nat) (h0 : 0 ≤ N) (h : 4000 < N) :
    Calls Try.prog 27 #[pkV N a n cap] w fun o w' => o = .returned (.bool false) ∧ w' = w.alloc (pkC N a n cap 27) := by
  go_enter Try.func27, Try.ntmps27
  go_wp2
  go_ret
  exact ⟨rfl, rfl⟩
theorem so_len (w : World) (N : Nat) (a : Option Addr) (n cap : Nat) (h : N ≤ 4000) (m : Nat) (hm : m ≤ 1048576) (hq : ((N : Int) + 63).tdiv 64 = (m : Int)) (hne : ((n : Int) != (m : Int)) = true) :
    Calls Try.prog 27 #[pkV (N : Int) a n cap] w fun o w' => o = .returned (.bool false) ∧ w' = w.alloc (pkC (N : Int) a n cap 27) := by
  go_enter Try.func27, Try.ntmps27
  go_wp2
  go_ret
  exact ⟨rfl, rfl⟩
theorem pk_in {w wr : World} {N : Int} {a : Option Addr} {n cap : Nat} (hb : Below (w.heap.size + 1) (w.alloc (pkC N a n cap 27)) wr) :
    wr.cell? ⟨w.heap.size, 0, none⟩ = some (.int .i64 N) ∧ wr.cell? ⟨w.heap.size, 1, none⟩ = some (.slice a n cap) ∧ Below w.heap.size w wr := by
  refine ⟨(hb.cell (p := ⟨w.heap.size, 0, none⟩) (by simp)).trans (by simp), (hb.cell (p := ⟨w.heap.size, 1, none⟩) (by simp)).trans (by simp), ?_⟩
  exact ((Below.refl _ _).alloc (Nat.le_refl _) _).trans (hb.mono (by omega))
set_option maxHeartbeats 1000000 in
set_option maxRecDepth 20000 in
theorem so_loop (w : World) (N : Nat) (a : Option Addr) (n cap : Nat) (l : List Nat) (h : isWords w a n cap l) (hN : N ≤ 4000) (hn : n ≤ 1000) (hq : ((N : Int) + 63).tdiv 64 = (n : Int)) (hNn : N ≤ 64 * n) :
    Calls Try.prog 27 #[pkV (N : Int) a n cap] w fun o w' => o = .returned (.bool (padB l N n)) ∧ Below w.heap.size w w' := by
  have HH : Hid (isWords w a n cap l) := h
  clear h
  go_enter Try.func27, Try.ntmps27
  go_wp2
  go_loopw [3] (fun i wr => ∃ k : Nat, N ≤ k ∧ k ≤ 64 * n ∧ i = .int .i64 (k : Int) ∧ (∀ j, N ≤ j → j < k → lev l j = 0) ∧ Below (w.heap.size + 1) (w.alloc (pkC (N : Int) a n cap 27)) wr) (fun i _ => 64 * n - (intOf i).toNat)
  case atStart => exact ⟨N, Nat.le_refl _, hNn, rfl, fun j h1 h2 => absurd h1 (by omega), Below.refl _ _⟩
  case round =>
    obtain ⟨k, hk1, hk2, rfl, hz, hb⟩ := hrel
    obtain ⟨c0, c1, hB⟩ := pk_in hb
    have hsz := hB.size
    have HZ : Hid ((∀ j, N ≤ j → j < k → lev l j = 0) ∧ Below (w.heap.size + 1) (w.alloc (pkC (N : Int) a n cap 27)) wr ∧ Below w.heap.size w wr ∧ N ≤ k) := ⟨hz, hb, hB, hk1⟩
    clear hz hb hB hk1
    by_cases hlt : k < 64 * n
    · have hL : lev l k = 0 ∨ lev l k = 1 := by unfold lev; omega
      rcases hL with hL | hL
      · have HL : Hid (lev l k = 0) := hL
        go_wp2_with (first | (go_at_call 60; refine (l2bit_ok _ (N : Int) a n cap l (HH.out.below HZ.out.2.2.1) k hlt (by omega)).mono ?_; rintro o w1 ⟨rfl, rfl⟩; rw [HL.out]))
        go_roundw
        case rel =>
          refine ⟨k + 1, by have := HZ.out.2.2.2; omega, by omega, by go_num, ?_, ?_⟩
          · intro j h1 h2
            by_cases e : j = k
            · subst e; exact HL.out
            · exact HZ.out.1 j h1 (by omega)
          · exact HZ.out.2.1.alloc (by have := HZ.out.2.1.size; simp at this; omega) _
        case measure => simp [intOf]; omega
      · have HL : Hid (lev l k = 1) := hL
        go_wp2_with (first | (go_at_call 60; refine (l2bit_ok _ (N : Int) a n cap l (HH.out.below HZ.out.2.2.1) k hlt (by omega)).mono ?_; rintro o w1 ⟨rfl, rfl⟩; rw [HL.out]))
        go_ret
        refine ⟨ret_bool ?_, HZ.out.2.2.1.alloc hsz _⟩
        symm
        rw [Bool.eq_false_iff]
        intro hp
        have := padB_iff.1 hp k HZ.out.2.2.2 hlt
        rw [HL.out] at this
        cases this
    · go_wp2
      go_ret
      refine ⟨ret_bool (padB_iff.2 fun i h1 h2 => HZ.out.1 i h1 (by omega)).symm, HZ.out.2.2.1⟩
theorem l2ok_any (w : World) (N : Int) (a : Option Addr) (n cap : Nat) (l : List Nat) (h : isWords w a n cap l) :
    Calls Try.prog 27 #[pkV N a n cap] w fun o w' => o = .returned (.bool (okP N l)) ∧ Below w.heap.size w w' := by
  have hb1 : Below w.heap.size w (w.alloc (pkC N a n cap 27)) := (Below.refl _ _).alloc (Nat.le_refl _) _
  have hl := h.len
  by_cases h0 : 0 ≤ N
  case neg =>
    refine (so_neg w N a n cap (by omega)).mono ?_
    rintro o w' ⟨rfl, rfl⟩
    exact ⟨ret_bool (by simp [okP, h0]), hb1⟩
  by_cases h1 : N ≤ 4000
  case neg =>
    refine (so_big w N a n cap h0 (by omega)).mono ?_
    rintro o w' ⟨rfl, rfl⟩
    exact ⟨ret_bool (by simp [okP, h1]), hb1⟩
  obtain ⟨M, rfl⟩ : ∃ M : Nat, N = (M : Int) := ⟨N.toNat, by omega⟩
  have hq : ((M : Int) + 63).tdiv 64 = (((M + 63) / 64 : Nat) : Int) := by rw [Int.tdiv_eq_ediv_of_nonneg (by omega)]; omega
  by_cases h2 : n = (M + 63) / 64
  case neg =>
    refine (so_len w M a n cap (by omega) ((M + 63) / 64) (by omega) hq (by simp; omega)).mono ?_
    rintro o w' ⟨rfl, rfl⟩
    refine ⟨ret_bool ?_, hb1⟩
    have : ¬ l.length = (M + 63) / 64 := by omega
    simp [okP, this]
  have e2 : l.length = (M + 63) / 64 := by omega
  have hok : okP (M : Int) l = padB l M l.length := by
    simp [okP, ← e2]
    omega
  rw [hok, ← hl]
  exact so_loop w M a n cap l h (by omega) (by omega) (by rw [hq, h2]) (by omega)
end Go.Proofs.Ytihndnclplkleaa
