import Derived.Test.YtihndnclplkleaaHB
namespace Go.Proofs.Ytihndnclplkleaa
open Go.RowKit
set_option maxHeartbeats 1000000 in
set_option maxRecDepth 20000 in
theorem toEvent_any (w : World) (x y z : Int) (e : Bool) (i : Nat) (r : Bool) (d : Int) (a : Option Addr) (n cap : Nat) (l : List Nat) (h : isBytes w a n cap l) (hn : n ≤ 1048576) :
    Calls Try.prog 90 #[bxV x y z e i r d a n cap] w fun o w' => ∃ g, o = .returned (bxV x y z e i r d (some ⟨g, 0, none⟩) n n) ∧ isBytes w' (some ⟨g, 0, none⟩) n n l ∧ Below w.heap.size w w' ∧ w.heap.size ≤ g ∧ g < w'.heap.size := by
  have HH : Hid (isBytes w a n cap l) := h
  clear h
  go_enter Try.func90, Try.ntmps90
  go_wp2_with (first | (go_at_call 89; refine (toFrame_any _ e i r d a n cap l (HH.out.below ?_) hn).mono ?_))
  · exact (((Below.refl _ _).alloc (Nat.le_refl _) _).alloc (by simp) _).alloc (by simp; omega) _
  · rintro o w1 ⟨g, rfl, hby, hb, hg, hgz⟩
    have HGZ : Hid (g < w1.heap.size) := hgz
    clear hgz
    obtain ⟨hc, hf⟩ := bcell hb
    have hB : Below w.heap.size w w1 := ((((Below.refl w.heap.size w).alloc (Nat.le_refl _) _).alloc (by simp) _).alloc (by simp; omega) _).trans (hb.mono (by simp; omega))
    have HG : Hid (w.heap.size + 1 + 1 + 1 ≤ g) := by unfold Hid; simpa using hg
    have HY : Hid (isBytes w1 (some ⟨g, 0, none⟩) n n l) := hby
    clear hb hg hby
    go_wp2
    refine bodyPost_ret (v := bxV x y z e i r d (some ⟨g, 0, none⟩) n n) (by simp [results, Try.results90, go_sem, hc]) rfl ?_
    have hg' := HG.out
    refine ⟨g, rfl, HY.out.other ?_, ?_, by omega, by simpa using HGZ.out⟩
    · repeat rw [heap_setCell_other _ _ g _ (by show g ≠ _; simp; omega)]
    · repeat refine Below.setCell ?_ (by simp; try omega) _
      exact hB
set_option maxHeartbeats 1000000 in
set_option maxRecDepth 20000 in
theorem eqEvent_same (w : World) (x y z : Int) (e : Bool) (i : Nat) (r : Bool) (d : Int) (a : Option Addr) (n cap : Nat) (l : List Nat) (h : isBytes w a n cap l) (a' : Option Addr) (n' cap' : Nat) (h' : isBytes w a' n' cap' l) (hn : n ≤ 1048576) :
    Calls Try.prog 72 #[bxV x y z e i r d a n cap, bxV x y z e i r d a' n' cap'] w fun o w' => o = .returned (.bool true) ∧ Below w.heap.size w w' := by
  have HH : Hid (isBytes w a n cap l) := h
  have HH' : Hid (isBytes w a' n' cap' l) := h'
  clear h h'
  have hX : (x != x) = false := by simp
  have hY : (y != y) = false := by simp
  have hZ : (z != z) = false := by simp
  have HC : Hid (∀ W, Below w.heap.size w W → Calls Try.prog 71 #[frV e i r d a n cap, frV e i r d a' n' cap'] W fun o w' => o = .returned (.bool true) ∧ Below w.heap.size w w') := by
    intro W hW
    refine (eqFrame_same W e i r d a n cap l (HH.out.below hW) a' n' cap' (HH'.out.below hW) hn).mono ?_
    rintro o w' ⟨rfl, hb⟩
    exact ⟨rfl, hW.trans (hb.mono hW.size)⟩
  go_enter Try.func72, Try.ntmps72
  go_wp2_with (first | (go_at_call 71; refine (HC.out _ (((Below.refl _ _).alloc (Nat.le_refl _) _).alloc (by simp) _)).mono ?_; rintro o w1 ⟨rfl, hb1⟩))
  go_ret
  exact ⟨rfl, hb1⟩
theorem szEvent_any (w : World) (x y z : Int) (e : Bool) (i : Nat) (r : Bool) (d : Int) (a : Option Addr) (n cap : Nat) (m : Nat) (hn : n ≤ 9223372036854775807) (hm : m ≤ 1048576) :
    Calls Try.prog 87 #[bxV x y z e i r d a n cap, .int .i64 m] w fun o w' => o = .returned (.int .i64 (if (n : Int) ≤ (m : Int) then (m : Int) - (n : Int) else -1)) ∧ Below w.heap.size w w' := by
  by_cases h : (n : Int) ≤ (m : Int)
  · have HC : Hid (∀ W, Calls Try.prog 86 #[frV e i r d a n cap, .int .i64 m] W fun o w' => o = .returned (.int .i64 ((m : Int) - (n : Int))) ∧ W.alloc (frC e i r d a n cap 142) = w') := by
      intro W; have := szFrame_any W e i r d a n cap m hn hm; rw [if_pos h] at this; exact this
    rw [if_pos h]
    go_enter Try.func87, Try.ntmps87
    go_wp2_with (first | (go_at_call 86; refine (HC.out _).mono ?_; rintro o w1 ⟨rfl, rfl⟩))
    go_ret
    exact ⟨rfl, ((Below.refl _ _).alloc (Nat.le_refl _) _).alloc (by simp) _⟩
  · have HC : Hid (∀ W, Calls Try.prog 86 #[frV e i r d a n cap, .int .i64 m] W fun o w' => o = .returned (.int .i64 (-1)) ∧ W.alloc (frC e i r d a n cap 142) = w') := by
      intro W; have := szFrame_any W e i r d a n cap m hn hm; rw [if_neg h] at this; exact this
    rw [if_neg h]
    go_enter Try.func87, Try.ntmps87
    go_wp2_with (first | (go_at_call 86; refine (HC.out _).mono ?_; rintro o w1 ⟨rfl, rfl⟩))
    go_ret
    exact ⟨rfl, ((Below.refl _ _).alloc (Nat.le_refl _) _).alloc (by simp) _⟩
end Go.Proofs.Ytihndnclplkleaa
