import Derived.Test.YtnefmdjodjpopaaAX
namespace Go.Proofs.Ytnefmdjodjpopaa
open Go.RowKit

theorem l1lay_any (w : World) (a : Option Addr) (n cap : Nat) (l : List Nat) (h : isBytes w a n cap l) (hn : l.length ≤ 100000) :
    Calls Try.prog 81 #[.slice a n cap] w fun e w' => e = .returned (.tuple #[.int .i64 ((layL l).1 : Nat), .int .i64 ((layL l).2 : Nat)]) ∧ w = w' := by
  by_cases h14 : l.length < 14
  · have hlen := h.len
    subst hlen
    have h14' : (l.length : Int) < 14 := by omega
    have HL : Hid (layL l = (0, 0)) := by unfold Hid layL; rw [if_pos h14]
    clear h hn h14
    generalize l.length = n at *
    go_enter Try.func81, Try.ntmps81
    go_wp2
    go_ret2
    exact ⟨by rw [HL.out]; rfl, rfl⟩
  · obtain ⟨g, off, rfl, -⟩ := h.cells (by intro e; rw [e] at h14; simp at h14)
    by_cases h13 : l.getD 13 0 = 49
    · exact l1lay_39 w g off n cap l h hn h14 (by unfold layH; rw [if_pos h13])
    · exact l1lay_19 w g off n cap l h hn h14 (by unfold layH; rw [if_neg h13])
/-- the field of the plain letter behind these -/
def fieldL (l : List Nat) : Nat :=
  if l.length = 0 then 1 else if l.length < 12 then 2 else if l.length = 12 then 3 else if l.length = 13 then 4
  else if l.length < (layL l).1 then
    (if (layL l).1 ≤ l.length + 4 then 8 else if (layL l).1 = 19 then 7 else if l.length < 32 then 5 else if l.length = 32 then 6 else 7)
  else if l.length < (layL l).2 then 9 else if l.length < (layL l).2 + 15 then 10 else if l.length < (layL l).2 + 18 then l.length - (layL l).2 - 4
  else if l.length < (layL l).2 + 25 then 14 else 15
theorem layL_le (l : List Nat) : (layL l).1 ≤ 39 ∧ (layL l).2 ≤ 103 := by
  have : layH l ≤ 39 := by unfold layH; split <;> omega
  have h2 : layN l ≤ 8 := by unfold layN; split <;> omega
  unfold layL
  split
  · exact ⟨by simp, by simp⟩
  · split
    · exact ⟨this, by simp⟩
    · exact ⟨this, by show _ + _ ≤ _; omega⟩
theorem ret_i64 {a b : Int} (h : a = b) : Ending.returned (.int .i64 a) = .returned (.int .i64 b) := by rw [h]
set_option maxHeartbeats 6000000 in
set_option maxRecDepth 20000 in
theorem l1field_any (w : World) (a : Option Addr) (n cap : Nat) (l : List Nat) (h : isBytes w a n cap l) (hn : l.length ≤ 100000) :
    Calls Try.prog 68 #[.slice a n cap] w fun e w' => e = .returned (.int .i64 (fieldL l : Nat)) ∧ w = w' := by
  have HC : Hid (Calls Try.prog 81 #[.slice a n cap] w fun e w' => e = .returned (.tuple #[.int .i64 ((layL l).1 : Nat), .int .i64 ((layL l).2 : Nat)]) ∧ w = w') := l1lay_any w a n cap l h hn
  have hlen := h.len
  subst hlen
  obtain ⟨hh1, hh2⟩ := layL_le l
  have HF : Hid (fieldL l = _) := (show fieldL l = _ from by unfold fieldL; rfl)
  clear h
  generalize (layL l).1 = H at *
  generalize (layL l).2 = E at *
  generalize fieldL l = F at *
  generalize l.length = n at *
  by_cases p0 : n = 0
  · have ip0 : ((n : Int) == 0) = true := by first | omega | (simp; omega)
    have HF' : Hid (F = 1) := by unfold Hid; rw [HF.out, if_pos p0]
    clear HF p0
    go_enter Try.func68, Try.ntmps68
    go_wp2_with (go_at_call 81; refine HC.out.mono ?_; rintro e w1 ⟨rfl, rfl⟩)
    go_ret
    exact ⟨by rw [HF'.out]; rfl, rfl⟩
  · have ip0 : ((n : Int) == 0) = false := by first | omega | (simp; omega)
    by_cases p1 : n < 12
    · have ip1 : (n : Int) < 12 := by first | omega | (simp; omega)
      have HF' : Hid (F = 2) := by unfold Hid; rw [HF.out, if_neg p0, if_pos p1]
      clear HF p0 p1
      go_enter Try.func68, Try.ntmps68
      go_wp2_with (go_at_call 81; refine HC.out.mono ?_; rintro e w1 ⟨rfl, rfl⟩)
      go_ret
      exact ⟨by rw [HF'.out]; rfl, rfl⟩
    · have ip1 : ¬ (n : Int) < 12 := by first | omega | (simp; omega)
      by_cases p2 : n = 12
      · have ip2 : ((n : Int) == 12) = true := by first | omega | (simp; omega)
        have HF' : Hid (F = 3) := by unfold Hid; rw [HF.out, if_neg p0, if_neg p1, if_pos p2]
        clear HF p0 p1 p2
        go_enter Try.func68, Try.ntmps68
        go_wp2_with (go_at_call 81; refine HC.out.mono ?_; rintro e w1 ⟨rfl, rfl⟩)
        go_ret
        exact ⟨by rw [HF'.out]; rfl, rfl⟩
      · have ip2 : ((n : Int) == 12) = false := by first | omega | (simp; omega)
        by_cases p3 : n = 13
        · have ip3 : ((n : Int) == 13) = true := by first | omega | (simp; omega)
          have HF' : Hid (F = 4) := by unfold Hid; rw [HF.out, if_neg p0, if_neg p1, if_neg p2, if_pos p3]
          clear HF p0 p1 p2 p3
          go_enter Try.func68, Try.ntmps68
          go_wp2_with (go_at_call 81; refine HC.out.mono ?_; rintro e w1 ⟨rfl, rfl⟩)
          go_ret
          exact ⟨by rw [HF'.out]; rfl, rfl⟩
        · have ip3 : ((n : Int) == 13) = false := by first | omega | (simp; omega)
          by_cases p4 : n < H
          · have ip4 : (n : Int) < (H : Int) := by first | omega | (simp; omega)
            by_cases p5 : H ≤ n + 4
            · have ip5 : (n : Int) ≥ (H : Int) - 4 := by first | omega | (simp; omega)
              have HF' : Hid (F = 8) := by unfold Hid; rw [HF.out, if_neg p0, if_neg p1, if_neg p2, if_neg p3, if_pos p4, if_pos p5]
              clear HF p0 p1 p2 p3 p4 p5
              go_enter Try.func68, Try.ntmps68
              go_wp2_with (go_at_call 81; refine HC.out.mono ?_; rintro e w1 ⟨rfl, rfl⟩)
              go_ret
              exact ⟨by rw [HF'.out]; rfl, rfl⟩
            · have ip5 : ¬ (n : Int) ≥ (H : Int) - 4 := by first | omega | (simp; omega)
              by_cases p6 : H = 19
              · have ip6 : ((H : Int) == 19) = true := by first | omega | (simp; omega)
                have HF' : Hid (F = 7) := by unfold Hid; rw [HF.out, if_neg p0, if_neg p1, if_neg p2, if_neg p3, if_pos p4, if_neg p5, if_pos p6]
                clear HF p0 p1 p2 p3 p4 p5 p6
                go_enter Try.func68, Try.ntmps68
                go_wp2_with (go_at_call 81; refine HC.out.mono ?_; rintro e w1 ⟨rfl, rfl⟩)
                go_ret
                exact ⟨by rw [HF'.out]; rfl, rfl⟩
              · have ip6 : ((H : Int) == 19) = false := by first | omega | (simp; omega)
                by_cases p7 : n < 32
                · have ip7 : (n : Int) < 32 := by first | omega | (simp; omega)
                  have HF' : Hid (F = 5) := by unfold Hid; rw [HF.out, if_neg p0, if_neg p1, if_neg p2, if_neg p3, if_pos p4, if_neg p5, if_neg p6, if_pos p7]
                  clear HF p0 p1 p2 p3 p4 p5 p6 p7
                  go_enter Try.func68, Try.ntmps68
                  go_wp2_with (go_at_call 81; refine HC.out.mono ?_; rintro e w1 ⟨rfl, rfl⟩)
                  go_ret
                  exact ⟨by rw [HF'.out]; rfl, rfl⟩
                · have ip7 : ¬ (n : Int) < 32 := by first | omega | (simp; omega)
                  by_cases p8 : n = 32
                  · have ip8 : ((n : Int) == 32) = true := by first | omega | (simp; omega)
                    have HF' : Hid (F = 6) := by unfold Hid; rw [HF.out, if_neg p0, if_neg p1, if_neg p2, if_neg p3, if_pos p4, if_neg p5, if_neg p6, if_neg p7, if_pos p8]
                    clear HF p0 p1 p2 p3 p4 p5 p6 p7 p8
                    go_enter Try.func68, Try.ntmps68
                    go_wp2_with (go_at_call 81; refine HC.out.mono ?_; rintro e w1 ⟨rfl, rfl⟩)
                    go_ret
                    exact ⟨by rw [HF'.out]; rfl, rfl⟩
                  · have ip8 : ((n : Int) == 32) = false := by first | omega | (simp; omega)
                    have HF' : Hid (F = 7) := by unfold Hid; rw [HF.out, if_neg p0, if_neg p1, if_neg p2, if_neg p3, if_pos p4, if_neg p5, if_neg p6, if_neg p7, if_neg p8]
                    clear HF p0 p1 p2 p3 p4 p5 p6 p7 p8
                    go_enter Try.func68, Try.ntmps68
                    go_wp2_with (go_at_call 81; refine HC.out.mono ?_; rintro e w1 ⟨rfl, rfl⟩)
                    go_ret
                    exact ⟨by rw [HF'.out]; rfl, rfl⟩
          · have ip4 : ¬ (n : Int) < (H : Int) := by first | omega | (simp; omega)
            by_cases p9 : n < E
            · have ip9 : (n : Int) < (E : Int) := by first | omega | (simp; omega)
              have HF' : Hid (F = 9) := by unfold Hid; rw [HF.out, if_neg p0, if_neg p1, if_neg p2, if_neg p3, if_neg p4, if_pos p9]
              clear HF p0 p1 p2 p3 p4 p9
              go_enter Try.func68, Try.ntmps68
              go_wp2_with (go_at_call 81; refine HC.out.mono ?_; rintro e w1 ⟨rfl, rfl⟩)
              go_ret
              exact ⟨by rw [HF'.out]; rfl, rfl⟩
            · have ip9 : ¬ (n : Int) < (E : Int) := by first | omega | (simp; omega)
              by_cases p10 : n < E + 15
              · have ip10 : (n : Int) < (E : Int) + 15 := by first | omega | (simp; omega)
                have HF' : Hid (F = 10) := by unfold Hid; rw [HF.out, if_neg p0, if_neg p1, if_neg p2, if_neg p3, if_neg p4, if_neg p9, if_pos p10]
                clear HF p0 p1 p2 p3 p4 p9 p10
                go_enter Try.func68, Try.ntmps68
                go_wp2_with (go_at_call 81; refine HC.out.mono ?_; rintro e w1 ⟨rfl, rfl⟩)
                go_ret
                exact ⟨by rw [HF'.out]; rfl, rfl⟩
              · have ip10 : ¬ (n : Int) < (E : Int) + 15 := by first | omega | (simp; omega)
                by_cases p11 : n < E + 18
                · have ip11 : (n : Int) < (E : Int) + 18 := by first | omega | (simp; omega)
                  have HF' : Hid (F = n - E - 4) := by unfold Hid; rw [HF.out, if_neg p0, if_neg p1, if_neg p2, if_neg p3, if_neg p4, if_neg p9, if_neg p10, if_pos p11]
                  clear HF p0 p1 p2 p3 p4 p9 p10 p11
                  go_enter Try.func68, Try.ntmps68
                  go_wp2_with (go_at_call 81; refine HC.out.mono ?_; rintro e w1 ⟨rfl, rfl⟩)
                  go_ret
                  exact ⟨by rw [HF'.out]; exact ret_i64 (by omega), rfl⟩
                · have ip11 : ¬ (n : Int) < (E : Int) + 18 := by first | omega | (simp; omega)
                  by_cases p12 : n < E + 25
                  · have ip12 : (n : Int) < (E : Int) + 25 := by first | omega | (simp; omega)
                    have HF' : Hid (F = 14) := by unfold Hid; rw [HF.out, if_neg p0, if_neg p1, if_neg p2, if_neg p3, if_neg p4, if_neg p9, if_neg p10, if_neg p11, if_pos p12]
                    clear HF p0 p1 p2 p3 p4 p9 p10 p11 p12
                    go_enter Try.func68, Try.ntmps68
                    go_wp2_with (go_at_call 81; refine HC.out.mono ?_; rintro e w1 ⟨rfl, rfl⟩)
                    go_ret
                    exact ⟨by rw [HF'.out]; rfl, rfl⟩
                  · have ip12 : ¬ (n : Int) < (E : Int) + 25 := by first | omega | (simp; omega)
                    have HF' : Hid (F = 15) := by unfold Hid; rw [HF.out, if_neg p0, if_neg p1, if_neg p2, if_neg p3, if_neg p4, if_neg p9, if_neg p10, if_neg p11, if_neg p12]
                    clear HF p0 p1 p2 p3 p4 p9 p10 p11 p12
                    go_enter Try.func68, Try.ntmps68
                    go_wp2_with (go_at_call 81; refine HC.out.mono ?_; rintro e w1 ⟨rfl, rfl⟩)
                    go_ret
                    exact ⟨by rw [HF'.out]; rfl, rfl⟩
end Go.Proofs.Ytnefmdjodjpopaa
