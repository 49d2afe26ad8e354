import Derived.Test.YtnefmdjodjpopaaAZ
namespace Go.Proofs.Ytnefmdjodjpopaa
open Go.RowKit

/-- the verdict on one more plain letter -/
def lookL (l : List Nat) (c : Nat) : Nat :=
  if fieldL l = 1 then (if c = 49 then 4 else 0) else if fieldL l = 11 then (if c = 48 then 4 else 0)
  else if fieldL l = 13 then (if c = 48 then 4 else if crcOkL l = false then 5 else 0)
  else if fieldL l = 14 then (if l.length < (layL l).2 + 24 then (if c = 48 then 4 else if l.length = (layL l).2 + 23 then 1 else 0)
    else if l.length = (layL l).2 + 24 then (if c = 48 then 6 else 2) else 0)
  else 0
set_option maxHeartbeats 6000000 in
set_option maxRecDepth 20000 in
theorem l1look_48 (w : World) (a : Option Addr) (n cap : Nat) (l : List Nat) (h : isBytes w a n cap l) (hn : l.length ≤ 100000) :
    Calls Try.prog 90 #[.slice a n cap, .int .u8 48] w fun e w' => e = .returned (.int .i64 (lookL l 48 : Nat)) ∧ Below w.heap.size w w' := by
  have H81 : Hid (Calls Try.prog 81 #[.slice a n cap] w fun e w' => e = .returned (.tuple #[.int .i64 ((layL l).1 : Nat), .int .i64 ((layL l).2 : Nat)]) ∧ w = w') := l1lay_any w a n cap l h hn
  have H68 : Hid (Calls Try.prog 68 #[.slice a n cap] w fun e w' => e = .returned (.int .i64 (fieldL l : Nat)) ∧ w = w') := l1field_any w a n cap l h hn
  have H69 : Hid (Calls Try.prog 69 #[.slice a n cap] w fun e w' => e = .returned (.bool (crcOkL l)) ∧ Below w.heap.size w w') := l1crcOk_any w a n cap l h hn
  have hlen := h.len
  subst hlen
  obtain ⟨hh1, hh2⟩ := layL_le l
  have HF : Hid (lookL l 48 = _) := (show lookL l 48 = _ from by unfold lookL; rfl)
  clear h
  generalize (layL l).1 = H at *
  generalize (layL l).2 = E at *
  generalize lookL l 48 = L at *
  generalize fieldL l = F at *
  generalize crcOkL l = ck at *
  generalize l.length = n at *
  by_cases p1 : F = 1
  · have ip1 : ((F : Int) == 1) = true := by first | omega | (simp; omega) | simpa using p1
    have q49 : ¬ (48 : Nat) = 49 := by decide
    have HF' : Hid (L = 0) := by unfold Hid; rw [HF.out, if_pos p1, if_neg q49]
    clear HF p1
    go_enter Try.func90, Try.ntmps90
    go_wp2_with (first | (go_at_call 68; refine H68.out.mono ?_; rintro e w1 ⟨rfl, rfl⟩) | (go_at_call 69; refine H69.out.mono ?_; rintro e w2 ⟨rfl, hb2⟩) | (go_at_call 81; refine H81.out.mono ?_; rintro e w3 ⟨rfl, rfl⟩))
    go_ret
    exact ⟨by rw [HF'.out]; rfl, by first | exact hb2 | exact Below.refl _ _⟩
  · have ip1 : ((F : Int) == 1) = false := by first | omega | (simp; omega) | simpa using p1
    by_cases p11 : F = 11
    · have ip11 : ((F : Int) == 11) = true := by first | omega | (simp; omega) | simpa using p11
      have q48 : (48 : Nat) = 48 := by decide
      have HF' : Hid (L = 4) := by unfold Hid; rw [HF.out, if_neg p1, if_pos p11, if_pos q48]
      clear HF p1 p11
      go_enter Try.func90, Try.ntmps90
      go_wp2_with (first | (go_at_call 68; refine H68.out.mono ?_; rintro e w1 ⟨rfl, rfl⟩) | (go_at_call 69; refine H69.out.mono ?_; rintro e w2 ⟨rfl, hb2⟩) | (go_at_call 81; refine H81.out.mono ?_; rintro e w3 ⟨rfl, rfl⟩))
      go_ret
      exact ⟨by rw [HF'.out]; rfl, by first | exact hb2 | exact Below.refl _ _⟩
    · have ip11 : ((F : Int) == 11) = false := by first | omega | (simp; omega) | simpa using p11
      by_cases p13 : F = 13
      · have ip13 : ((F : Int) == 13) = true := by first | omega | (simp; omega) | simpa using p13
        have q48 : (48 : Nat) = 48 := by decide
        have HF' : Hid (L = 4) := by unfold Hid; rw [HF.out, if_neg p1, if_neg p11, if_pos p13, if_pos q48]
        clear HF p1 p11 p13
        go_enter Try.func90, Try.ntmps90
        go_wp2_with (first | (go_at_call 68; refine H68.out.mono ?_; rintro e w1 ⟨rfl, rfl⟩) | (go_at_call 69; refine H69.out.mono ?_; rintro e w2 ⟨rfl, hb2⟩) | (go_at_call 81; refine H81.out.mono ?_; rintro e w3 ⟨rfl, rfl⟩))
        go_ret
        exact ⟨by rw [HF'.out]; rfl, by first | exact hb2 | exact Below.refl _ _⟩
      · have ip13 : ((F : Int) == 13) = false := by first | omega | (simp; omega) | simpa using p13
        by_cases p14 : F = 14
        · have ip14 : ((F : Int) == 14) = true := by first | omega | (simp; omega) | simpa using p14
          by_cases pk6 : n < E + 24
          · have ipk6 : (n : Int) - (E : Int) - 18 < 6 := by first | omega | (simp; omega) | simpa using pk6
            have q48 : (48 : Nat) = 48 := by decide
            have HF' : Hid (L = 4) := by unfold Hid; rw [HF.out, if_neg p1, if_neg p11, if_neg p13, if_pos p14, if_pos pk6, if_pos q48]
            clear HF p1 p11 p13 p14 pk6
            go_enter Try.func90, Try.ntmps90
            go_wp2_with (first | (go_at_call 68; refine H68.out.mono ?_; rintro e w1 ⟨rfl, rfl⟩) | (go_at_call 69; refine H69.out.mono ?_; rintro e w2 ⟨rfl, hb2⟩) | (go_at_call 81; refine H81.out.mono ?_; rintro e w3 ⟨rfl, rfl⟩))
            go_ret
            exact ⟨by rw [HF'.out]; rfl, by first | exact hb2 | exact Below.refl _ _⟩
          · have ipk6 : ¬ (n : Int) - (E : Int) - 18 < 6 := by first | omega | (simp; omega) | simpa using pk6
            by_cases pk7 : n = E + 24
            · have ipk7 : (((n : Int) - (E : Int) - 18) == 6) = true := by first | omega | (simp; omega) | simpa using pk7
              have q48 : (48 : Nat) = 48 := by decide
              have HF' : Hid (L = 6) := by unfold Hid; rw [HF.out, if_neg p1, if_neg p11, if_neg p13, if_pos p14, if_neg pk6, if_pos pk7, if_pos q48]
              clear HF p1 p11 p13 p14 pk6 pk7
              go_enter Try.func90, Try.ntmps90
              go_wp2_with (first | (go_at_call 68; refine H68.out.mono ?_; rintro e w1 ⟨rfl, rfl⟩) | (go_at_call 69; refine H69.out.mono ?_; rintro e w2 ⟨rfl, hb2⟩) | (go_at_call 81; refine H81.out.mono ?_; rintro e w3 ⟨rfl, rfl⟩))
              go_ret
              exact ⟨by rw [HF'.out]; rfl, by first | exact hb2 | exact Below.refl _ _⟩
            · have ipk7 : (((n : Int) - (E : Int) - 18) == 6) = false := by first | omega | (simp; omega) | simpa using pk7
              have HF' : Hid (L = 0) := by unfold Hid; rw [HF.out, if_neg p1, if_neg p11, if_neg p13, if_pos p14, if_neg pk6, if_neg pk7]
              clear HF p1 p11 p13 p14 pk6 pk7
              go_enter Try.func90, Try.ntmps90
              go_wp2_with (first | (go_at_call 68; refine H68.out.mono ?_; rintro e w1 ⟨rfl, rfl⟩) | (go_at_call 69; refine H69.out.mono ?_; rintro e w2 ⟨rfl, hb2⟩) | (go_at_call 81; refine H81.out.mono ?_; rintro e w3 ⟨rfl, rfl⟩))
              go_ret
              exact ⟨by rw [HF'.out]; rfl, by first | exact hb2 | exact Below.refl _ _⟩
        · have ip14 : ((F : Int) == 14) = false := by first | omega | (simp; omega) | simpa using p14
          have HF' : Hid (L = 0) := by unfold Hid; rw [HF.out, if_neg p1, if_neg p11, if_neg p13, if_neg p14]
          clear HF p1 p11 p13 p14
          go_enter Try.func90, Try.ntmps90
          go_wp2_with (first | (go_at_call 68; refine H68.out.mono ?_; rintro e w1 ⟨rfl, rfl⟩) | (go_at_call 69; refine H69.out.mono ?_; rintro e w2 ⟨rfl, hb2⟩) | (go_at_call 81; refine H81.out.mono ?_; rintro e w3 ⟨rfl, rfl⟩))
          go_ret
          exact ⟨by rw [HF'.out]; rfl, by first | exact hb2 | exact Below.refl _ _⟩
set_option maxHeartbeats 6000000 in
set_option maxRecDepth 20000 in
theorem l1look_49 (w : World) (a : Option Addr) (n cap : Nat) (l : List Nat) (h : isBytes w a n cap l) (hn : l.length ≤ 100000) :
    Calls Try.prog 90 #[.slice a n cap, .int .u8 49] w fun e w' => e = .returned (.int .i64 (lookL l 49 : Nat)) ∧ Below w.heap.size w w' := by
  have H81 : Hid (Calls Try.prog 81 #[.slice a n cap] w fun e w' => e = .returned (.tuple #[.int .i64 ((layL l).1 : Nat), .int .i64 ((layL l).2 : Nat)]) ∧ w = w') := l1lay_any w a n cap l h hn
  have H68 : Hid (Calls Try.prog 68 #[.slice a n cap] w fun e w' => e = .returned (.int .i64 (fieldL l : Nat)) ∧ w = w') := l1field_any w a n cap l h hn
  have H69 : Hid (Calls Try.prog 69 #[.slice a n cap] w fun e w' => e = .returned (.bool (crcOkL l)) ∧ Below w.heap.size w w') := l1crcOk_any w a n cap l h hn
  have hlen := h.len
  subst hlen
  obtain ⟨hh1, hh2⟩ := layL_le l
  have HF : Hid (lookL l 49 = _) := (show lookL l 49 = _ from by unfold lookL; rfl)
  clear h
  generalize (layL l).1 = H at *
  generalize (layL l).2 = E at *
  generalize lookL l 49 = L at *
  generalize fieldL l = F at *
  generalize crcOkL l = ck at *
  generalize l.length = n at *
  by_cases p1 : F = 1
  · have ip1 : ((F : Int) == 1) = true := by first | omega | (simp; omega) | simpa using p1
    have q49 : (49 : Nat) = 49 := by decide
    have HF' : Hid (L = 4) := by unfold Hid; rw [HF.out, if_pos p1, if_pos q49]
    clear HF p1
    go_enter Try.func90, Try.ntmps90
    go_wp2_with (first | (go_at_call 68; refine H68.out.mono ?_; rintro e w1 ⟨rfl, rfl⟩) | (go_at_call 69; refine H69.out.mono ?_; rintro e w2 ⟨rfl, hb2⟩) | (go_at_call 81; refine H81.out.mono ?_; rintro e w3 ⟨rfl, rfl⟩))
    go_ret
    exact ⟨by rw [HF'.out]; rfl, by first | exact hb2 | exact Below.refl _ _⟩
  · have ip1 : ((F : Int) == 1) = false := by first | omega | (simp; omega) | simpa using p1
    by_cases p11 : F = 11
    · have ip11 : ((F : Int) == 11) = true := by first | omega | (simp; omega) | simpa using p11
      have q48 : ¬ (49 : Nat) = 48 := by decide
      have HF' : Hid (L = 0) := by unfold Hid; rw [HF.out, if_neg p1, if_pos p11, if_neg q48]
      clear HF p1 p11
      go_enter Try.func90, Try.ntmps90
      go_wp2_with (first | (go_at_call 68; refine H68.out.mono ?_; rintro e w1 ⟨rfl, rfl⟩) | (go_at_call 69; refine H69.out.mono ?_; rintro e w2 ⟨rfl, hb2⟩) | (go_at_call 81; refine H81.out.mono ?_; rintro e w3 ⟨rfl, rfl⟩))
      go_ret
      exact ⟨by rw [HF'.out]; rfl, by first | exact hb2 | exact Below.refl _ _⟩
    · have ip11 : ((F : Int) == 11) = false := by first | omega | (simp; omega) | simpa using p11
      by_cases p13 : F = 13
      · have ip13 : ((F : Int) == 13) = true := by first | omega | (simp; omega) | simpa using p13
        have q48 : ¬ (49 : Nat) = 48 := by decide
        by_cases pc : ck = false
        · have ipc : ck = false := by first | omega | (simp; omega) | simpa using pc
          have HF' : Hid (L = 5) := by unfold Hid; rw [HF.out, if_neg p1, if_neg p11, if_pos p13, if_neg q48, if_pos pc]
          clear HF p1 p11 p13 pc
          go_enter Try.func90, Try.ntmps90
          go_wp2_with (first | (go_at_call 68; refine H68.out.mono ?_; rintro e w1 ⟨rfl, rfl⟩) | (go_at_call 69; refine H69.out.mono ?_; rintro e w2 ⟨rfl, hb2⟩) | (go_at_call 81; refine H81.out.mono ?_; rintro e w3 ⟨rfl, rfl⟩))
          go_ret
          exact ⟨by rw [HF'.out]; rfl, by first | exact hb2 | exact Below.refl _ _⟩
        · have ipc : ck = true := by first | omega | (simp; omega) | simpa using pc
          have HF' : Hid (L = 0) := by unfold Hid; rw [HF.out, if_neg p1, if_neg p11, if_pos p13, if_neg q48, if_neg pc]
          clear HF p1 p11 p13 pc
          go_enter Try.func90, Try.ntmps90
          go_wp2_with (first | (go_at_call 68; refine H68.out.mono ?_; rintro e w1 ⟨rfl, rfl⟩) | (go_at_call 69; refine H69.out.mono ?_; rintro e w2 ⟨rfl, hb2⟩) | (go_at_call 81; refine H81.out.mono ?_; rintro e w3 ⟨rfl, rfl⟩))
          go_ret
          exact ⟨by rw [HF'.out]; rfl, by first | exact hb2 | exact Below.refl _ _⟩
      · have ip13 : ((F : Int) == 13) = false := by first | omega | (simp; omega) | simpa using p13
        by_cases p14 : F = 14
        · have ip14 : ((F : Int) == 14) = true := by first | omega | (simp; omega) | simpa using p14
          by_cases pk6 : n < E + 24
          · have ipk6 : (n : Int) - (E : Int) - 18 < 6 := by first | omega | (simp; omega) | simpa using pk6
            have q48 : ¬ (49 : Nat) = 48 := by decide
            by_cases pk5 : n = E + 23
            · have ipk5 : (((n : Int) - (E : Int) - 18) == 5) = true := by first | omega | (simp; omega) | simpa using pk5
              have HF' : Hid (L = 1) := by unfold Hid; rw [HF.out, if_neg p1, if_neg p11, if_neg p13, if_pos p14, if_pos pk6, if_neg q48, if_pos pk5]
              clear HF p1 p11 p13 p14 pk6 pk5
              go_enter Try.func90, Try.ntmps90
              go_wp2_with (first | (go_at_call 68; refine H68.out.mono ?_; rintro e w1 ⟨rfl, rfl⟩) | (go_at_call 69; refine H69.out.mono ?_; rintro e w2 ⟨rfl, hb2⟩) | (go_at_call 81; refine H81.out.mono ?_; rintro e w3 ⟨rfl, rfl⟩))
              go_ret
              exact ⟨by rw [HF'.out]; rfl, by first | exact hb2 | exact Below.refl _ _⟩
            · have ipk5 : (((n : Int) - (E : Int) - 18) == 5) = false := by first | omega | (simp; omega) | simpa using pk5
              have HF' : Hid (L = 0) := by unfold Hid; rw [HF.out, if_neg p1, if_neg p11, if_neg p13, if_pos p14, if_pos pk6, if_neg q48, if_neg pk5]
              clear HF p1 p11 p13 p14 pk6 pk5
              go_enter Try.func90, Try.ntmps90
              go_wp2_with (first | (go_at_call 68; refine H68.out.mono ?_; rintro e w1 ⟨rfl, rfl⟩) | (go_at_call 69; refine H69.out.mono ?_; rintro e w2 ⟨rfl, hb2⟩) | (go_at_call 81; refine H81.out.mono ?_; rintro e w3 ⟨rfl, rfl⟩))
              go_ret
              exact ⟨by rw [HF'.out]; rfl, by first | exact hb2 | exact Below.refl _ _⟩
          · have ipk6 : ¬ (n : Int) - (E : Int) - 18 < 6 := by first | omega | (simp; omega) | simpa using pk6
            by_cases pk7 : n = E + 24
            · have ipk7 : (((n : Int) - (E : Int) - 18) == 6) = true := by first | omega | (simp; omega) | simpa using pk7
              have q48 : ¬ (49 : Nat) = 48 := by decide
              have HF' : Hid (L = 2) := by unfold Hid; rw [HF.out, if_neg p1, if_neg p11, if_neg p13, if_pos p14, if_neg pk6, if_pos pk7, if_neg q48]
              clear HF p1 p11 p13 p14 pk6 pk7
              go_enter Try.func90, Try.ntmps90
              go_wp2_with (first | (go_at_call 68; refine H68.out.mono ?_; rintro e w1 ⟨rfl, rfl⟩) | (go_at_call 69; refine H69.out.mono ?_; rintro e w2 ⟨rfl, hb2⟩) | (go_at_call 81; refine H81.out.mono ?_; rintro e w3 ⟨rfl, rfl⟩))
              go_ret
              exact ⟨by rw [HF'.out]; rfl, by first | exact hb2 | exact Below.refl _ _⟩
            · have ipk7 : (((n : Int) - (E : Int) - 18) == 6) = false := by first | omega | (simp; omega) | simpa using pk7
              have HF' : Hid (L = 0) := by unfold Hid; rw [HF.out, if_neg p1, if_neg p11, if_neg p13, if_pos p14, if_neg pk6, if_neg pk7]
              clear HF p1 p11 p13 p14 pk6 pk7
              go_enter Try.func90, Try.ntmps90
              go_wp2_with (first | (go_at_call 68; refine H68.out.mono ?_; rintro e w1 ⟨rfl, rfl⟩) | (go_at_call 69; refine H69.out.mono ?_; rintro e w2 ⟨rfl, hb2⟩) | (go_at_call 81; refine H81.out.mono ?_; rintro e w3 ⟨rfl, rfl⟩))
              go_ret
              exact ⟨by rw [HF'.out]; rfl, by first | exact hb2 | exact Below.refl _ _⟩
        · have ip14 : ((F : Int) == 14) = false := by first | omega | (simp; omega) | simpa using p14
          have HF' : Hid (L = 0) := by unfold Hid; rw [HF.out, if_neg p1, if_neg p11, if_neg p13, if_neg p14]
          clear HF p1 p11 p13 p14
          go_enter Try.func90, Try.ntmps90
          go_wp2_with (first | (go_at_call 68; refine H68.out.mono ?_; rintro e w1 ⟨rfl, rfl⟩) | (go_at_call 69; refine H69.out.mono ?_; rintro e w2 ⟨rfl, hb2⟩) | (go_at_call 81; refine H81.out.mono ?_; rintro e w3 ⟨rfl, rfl⟩))
          go_ret
          exact ⟨by rw [HF'.out]; rfl, by first | exact hb2 | exact Below.refl _ _⟩
theorem l1look_any (w : World) (a : Option Addr) (n cap : Nat) (l : List Nat) (c : Nat) (hc : M.isL c) (h : isBytes w a n cap l) (hn : l.length ≤ 100000) :
    Calls Try.prog 90 #[.slice a n cap, .int .u8 (c : Int)] w fun e w' => e = .returned (.int .i64 (lookL l c : Nat)) ∧ Below w.heap.size w w' := by
  rcases hc with rfl | rfl
  · exact l1look_48 w a n cap l h hn
  · exact l1look_49 w a n cap l h hn
end Go.Proofs.Ytnefmdjodjpopaa
