import Derived.Test.YtjmlalojfghkiaaDoorS
namespace Go.Proofs.YtjmlalojfghkiaaDoor
open Go.RowKit
set_option linter.unusedVariables false
theorem formUnless_any (w : World) (c : Bool) : Calls Tryd.prog 76 #[.bool c] w fun o w' => o = .returned (.int .i64 (if c = true then 0 else 4)) ∧ w' = w := by
  cases c
  all_goals
    go_enter Tryd.func76, Tryd.ntmps76
    go_wp2
    go_ret
    exact ⟨rfl, rfl⟩
theorem goesOn_any (w : World) (c : Int) : Calls Tryd.prog 31 #[.int .i64 c] w fun o w' => retB o (c = 0 ∨ c = 1) ∧ w' = w := by
  go_enter Tryd.func31, Tryd.ntmps31
  go_wp2
  all_goals (go_ret; refine ⟨⟨_, rfl, ?_⟩, rfl⟩; simp_all)
theorem verd13 {lf cr ac bit : Int} (h : bit = 1) : verdZ 13 lf cr ac bit = (if bit = 0 then 4 else if ac = cr then 0 else 5) := rfl
theorem verd14 {lf cr ac : Int} (h1 : ¬ lf = 1) (h2 : ¬ lf = 2) (h3 : 1 ≤ lf) (b : Nat) (hb : b < 2) : (if ((b : Int) == 1) = true then (0 : Int) else 4) = verdZ 14 lf cr ac b := by
  have hb' : b = 0 ∨ b = 1 := by omega
  rcases hb' with rfl | rfl
  · show (4 : Int) = (if lf > 1 then 4 else 6)
    rw [if_pos (by omega)]
  · show (0 : Int) = (if lf = 2 then 1 else if lf = 1 then 2 else 0)
    rw [if_neg h2, if_neg h1]
set_option maxHeartbeats 8000000 in
set_option maxRecDepth 20000 in
theorem plainCode_any (w : World) (P : Nat) (S : Sc) (a : Option Addr) (n cap : Nat) (h : blk w P (scL S a n cap) 31) (hlf : 1 ≤ S.lf) (b : Nat) (hb : b < 2) :
    Calls Tryd.prog 52 #[.pointer (some ⟨P, 0, none⟩), .int .i64 (b : Int)] w fun o w' => o = .returned (.int .i64 (verdZ S.f S.lf S.cr S.ac b)) ∧ Below w.heap.size w w' := by
  obtain ⟨f, lf, rn, lv, cr, ac, e, i, r, d, l⟩ := S
  have z0 := h.cell 0 _ rfl
  have z1 := h.cell 1 _ rfl
  have z4 := h.cell 4 _ rfl
  have z5 := h.cell 5 _ rfl
  simp only [] at hlf ⊢
  have HLF : Hid (1 ≤ lf) := hlf
  clear h hlf
  have HFU : Hid (∀ (W : World) (c : Bool), Calls Tryd.prog 76 #[.bool c] W fun o w' => o = .returned (.int .i64 (if c = true then 0 else 4)) ∧ w' = W) := fun W c => formUnless_any W c
  have hb' : b = 0 ∨ b = 1 := by omega
  by_cases h1 : f = 1
  · subst h1
    rcases hb' with rfl | rfl
    all_goals
      go_enter Tryd.func52, Tryd.ntmps52
      go_wp2_with (first | (go_at_call 76; refine (HFU.out _ _).mono ?_; rintro o w1 ⟨rfl, rfl⟩))
      go_ret
      exact ⟨rfl, Below.refl _ _⟩
  by_cases h13 : f = 13
  · subst h13
    rcases hb' with rfl | rfl
    · go_enter Tryd.func52, Tryd.ntmps52
      go_wp2_with fail
      go_quiet (fail)
      go_wp2_with (first | (go_at_call 76; refine (HFU.out _ _).mono ?_; rintro o w1 ⟨rfl, rfl⟩))
      go_ret
      refine ⟨ret_int ?_, below_drewN (Below.refl _ _) _⟩
      rfl
    · by_cases hca : ac = cr
      · have q : (ac != cr) = false := by simpa using hca
        have HCA : Hid (ac = cr) := hca
        clear hca
        go_enter Tryd.func52, Tryd.ntmps52
        go_wp2_with fail
        go_quiet (fail)
        go_wp2_with (first | (go_at_call 76; refine (HFU.out _ _).mono ?_; rintro o w1 ⟨rfl, rfl⟩))
        go_ret
        refine ⟨ret_int ?_, below_drewN (Below.refl _ _) _⟩
        show (0 : Int) = (if ac = cr then 0 else 5)
        rw [if_pos HCA.out]
      · have q : (ac != cr) = true := by simpa using hca
        have HCA : Hid (¬ ac = cr) := hca
        clear hca
        go_enter Tryd.func52, Tryd.ntmps52
        go_wp2_with fail
        go_quiet (fail)
        go_wp2_with (first | (go_at_call 76; refine (HFU.out _ _).mono ?_; rintro o w1 ⟨rfl, rfl⟩))
        go_ret
        refine ⟨ret_int ?_, below_drewN (Below.refl _ _) _⟩
        show (5 : Int) = (if ac = cr then 0 else 5)
        rw [if_neg HCA.out]
  by_cases h14 : f = 14
  · subst h14
    by_cases l1 : lf = 1
    · subst l1
      rcases hb' with rfl | rfl
      all_goals
        go_enter Tryd.func52, Tryd.ntmps52
        go_wp2_with fail
        go_quiet (fail)
        go_wp2_with (first | (go_at_call 76; refine (HFU.out _ _).mono ?_; rintro o w1 ⟨rfl, rfl⟩))
        go_ret
        refine ⟨ret_int ?_, below_drewN (Below.refl _ _) _⟩
        rfl
    · by_cases l2 : lf = 2
      · subst l2
        rcases hb' with rfl | rfl
        all_goals
          go_enter Tryd.func52, Tryd.ntmps52
          go_wp2_with fail
          go_quiet (fail)
          go_wp2_with (first | (go_at_call 76; refine (HFU.out _ _).mono ?_; rintro o w1 ⟨rfl, rfl⟩))
          go_ret
          refine ⟨ret_int ?_, below_drewN (Below.refl _ _) _⟩
          rfl
      · have q1 : (lf == 1) = false := by simpa using l1
        have q2 : (lf == 2) = false := by simpa using l2
        have HL : Hid (¬ lf = 1 ∧ ¬ lf = 2) := ⟨l1, l2⟩
        clear l1 l2
        rcases hb' with rfl | rfl
        all_goals
          go_enter Tryd.func52, Tryd.ntmps52
          go_wp2_with fail
          go_quiet (fail)
          go_wp2_with (first | (go_at_call 76; refine (HFU.out _ _).mono ?_; rintro o w1 ⟨rfl, rfl⟩))
          go_ret
          refine ⟨ret_int ?_, below_drewN (Below.refl _ _) _⟩
          first | exact verd14 HL.out.1 HL.out.2 HLF.out 0 (by decide) | exact verd14 HL.out.1 HL.out.2 HLF.out 1 (by decide)
  by_cases h11 : f = 11
  · subst h11
    rcases hb' with rfl | rfl
    all_goals
      go_enter Tryd.func52, Tryd.ntmps52
      go_wp2_with fail
      go_quiet (fail)
      go_wp2_with (first | (go_at_call 76; refine (HFU.out _ _).mono ?_; rintro o w1 ⟨rfl, rfl⟩))
      go_ret
      refine ⟨ret_int ?_, below_drewN (Below.refl _ _) _⟩
      rfl
  · have q1 : (f == 1) = false := by simpa using h1
    have q13 : (f == 13) = false := by simpa using h13
    have q14 : (f == 14) = false := by simpa using h14
    have q11 : (f == 11) = false := by simpa using h11
    have HF : Hid (verdZ f lf cr ac b = 0) := by
      show _ = _
      unfold verdZ
      rw [if_neg h1, if_neg h11, if_neg h13, if_neg h14]
    clear h1 h13 h14 h11
    go_enter Tryd.func52, Tryd.ntmps52
    go_wp2_with fail
    go_quiet (fail)
    go_wp2_with (first | (go_at_call 76; refine (HFU.out _ _).mono ?_; rintro o w1 ⟨rfl, rfl⟩))
    go_ret
    refine ⟨ret_int ?_, below_drewN (Below.refl _ _) _⟩
    exact HF.out.symm
end Go.Proofs.YtjmlalojfghkiaaDoor
