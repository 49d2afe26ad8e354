import Derived.Test.YtihndnclplkleaaA
namespace Go.Proofs.Ytihndnclplkleaa
open Go.RowKit

abbrev pkV (N : Int) (a : Option Addr) (n cap : Nat) : Value := .agg #[.int .i64 N, .slice a n cap]
abbrev pkC (N : Int) (a : Option Addr) (n cap : Nat) (T : TypeId) : Obj := .cells #[.int .i64 N, .slice a n cap] T
theorem szPacked_any (w : World) (N : Int) (a : Option Addr) (n cap : Nat) (m : Nat) (hn : n ≤ 9223372036854775807) (hm : m ≤ 1048576) :
    Calls Try.prog 6 #[pkV N a n cap, .int .i64 m] w fun o w' => o = .returned (.int .i64 (if (n : Int) ≤ (m : Int) then (m : Int) - (n : Int) else -1)) ∧ w.alloc (pkC N a n cap 24) = w' := by
  by_cases h : (n : Int) ≤ (m : Int)
  · have HC : Hid (∀ W, Calls Try.prog 26 #[.slice a n cap, .int .i64 m] W fun o w' => o = .returned (.int .i64 ((m : Int) - (n : Int))) ∧ W = w') := by
      intro W; have := szWordS_any W a n cap m hn hm; rw [if_pos h] at this; exact this
    rw [if_pos h]
    go_enter Try.func6, Try.ntmps6
    go_wp2_with (first | (go_at_call 26; refine (HC.out _).mono ?_; rintro o w1 ⟨rfl, rfl⟩))
    go_ret
    exact ⟨rfl, rfl⟩
  · have HC : Hid (∀ W, Calls Try.prog 26 #[.slice a n cap, .int .i64 m] W fun o w' => o = .returned (.int .i64 (-1)) ∧ W = w') := by
      intro W; have := szWordS_any W a n cap m hn hm; rw [if_neg h] at this; exact this
    rw [if_neg h]
    go_enter Try.func6, Try.ntmps6
    go_wp2_with (first | (go_at_call 26; refine (HC.out _).mono ?_; rintro o w1 ⟨rfl, rfl⟩))
    go_ret
    exact ⟨rfl, rfl⟩
set_option maxHeartbeats 1000000 in
set_option maxRecDepth 20000 in
theorem toPacked_any (w : World) (N : Int) (a : Option Addr) (n cap : Nat) (l : List Nat) (h : isWords w a n cap l) (hn : n ≤ 1048576) :
    Calls Try.prog 8 #[pkV N a n cap] w fun o w' => ∃ g, o = .returned (pkV N (some ⟨g, 0, none⟩) n n) ∧ isWords w' (some ⟨g, 0, none⟩) n n l ∧ Below w.heap.size w w' := by
  have HH : Hid (isWords w a n cap l) := h
  clear h
  go_enter Try.func8, Try.ntmps8
  go_wp2_with (first | (go_at_call 30; refine (toWordS_any _ a n cap l (HH.out.below ?_) hn).mono ?_))
  · first | exact ((Below.refl _ _).alloc (Nat.le_refl _) _).alloc (by simp) _ | exact ((((Below.refl _ _).alloc (Nat.le_refl _) _).alloc (by simp) _).alloc (by simp; omega) _) | exact (((((Below.refl _ _).alloc (Nat.le_refl _) _).alloc (by simp) _).alloc (by simp; omega) _).setCell (by simp) _)
  · rintro o w1 ⟨g, rfl, hby, hb, hg, _⟩
    obtain ⟨hc, hf⟩ := bcell hb
    have hB : Below w.heap.size w w1 := by
      refine Below.trans ?_ (hb.mono (by simp; try omega))
      first | exact ((Below.refl _ _).alloc (Nat.le_refl _) _).alloc (by simp) _ | exact ((((Below.refl _ _).alloc (Nat.le_refl _) _).alloc (by simp) _).alloc (by simp; omega) _) | exact (((((Below.refl _ _).alloc (Nat.le_refl _) _).alloc (by simp) _).alloc (by simp; omega) _).setCell (by simp) _)
    have HG : Hid (w.heap.size + 1 + 1 + 1 ≤ g) := by unfold Hid; simpa using hg
    have HY : Hid (isWords w1 (some ⟨g, 0, none⟩) n n l) := hby
    clear hb hg hby
    go_wp2
    refine bodyPost_ret (v := pkV N (some ⟨g, 0, none⟩) n n) (by simp [results, Try.results8, go_sem, hc]) rfl ?_
    have hg' := HG.out
    refine ⟨g, rfl, ?_, ?_⟩
    · exact (((HY.out.setOther _ 1 _ (by omega)).setOther _ 0 _ (by omega)).setOther _ 1 _ (by omega))
    · exact ((hB.setCell (p := ⟨_, 1, none⟩) (by simp; omega) _).setCell (p := ⟨_, 0, none⟩) (by simp) _).setCell (p := ⟨_, 1, none⟩) (by simp) _
set_option maxHeartbeats 1000000 in
set_option maxRecDepth 20000 in
theorem eqPacked_same (w : World) (N : Int) (a : Option Addr) (n cap : Nat) (l : List Nat) (h : isWords w a n cap l) (a' : Option Addr) (n' cap' : Nat) (h' : isWords w a' n' cap' l) (hn : n ≤ 1048576) :
    Calls Try.prog 10 #[pkV N a n cap, pkV N a' n' cap'] w fun o w' => o = .returned (.bool true) ∧ Below w.heap.size w w' := by
  have HH : Hid (isWords w a n cap l) := h
  have HH' : Hid (isWords w a' n' cap' l) := h'
  clear h h'
  have hD : (N != N) = false := by simp
  have hbl : Below w.heap.size w ((w.alloc (pkC N a n cap 27)).alloc (pkC N a' n' cap' 27)) := ((Below.refl _ _).alloc (Nat.le_refl _) _).alloc (by simp) _
  have HB : Hid (Below w.heap.size w ((w.alloc (pkC N a n cap 27)).alloc (pkC N a' n' cap' 27))) := hbl
  clear hbl
  go_enter Try.func10, Try.ntmps10
  go_wp2_with (first | (go_at_call 36; refine (eqWordS_same _ _ _ _ _ _ _ l (HH.out.below HB.out) (HH'.out.below HB.out) hn).mono ?_; rintro o w1 ⟨rfl, q, rfl⟩))
  go_ret
  exact ⟨rfl, below_drewN HB.out q⟩
end Go.Proofs.Ytihndnclplkleaa
