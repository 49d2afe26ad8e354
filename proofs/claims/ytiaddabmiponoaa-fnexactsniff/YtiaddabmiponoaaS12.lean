import Derived.Test.YtiaddabmiponoaaS11
import Derived.Test.YtiaddabmiponoaaS10
namespace Go.Proofs.Ytiaddabmiponoaa
open Go.RowKit
/-- the verdict on one more plain letter -/
def lookL (l : List Nat) (c : Nat) : Nat :=
  if fieldL l = 1 then (if c = 49 then 4 else 0) else if fieldL l = 11 then (if c = 48 then 4 else 0)
  else if fieldL l = 13 then (if c = 48 then 4 else if crcOkL l = false then 5 else 0)
  else if fieldL l = 14 then (if l.length < (layL l).2 + 24 then (if c = 48 then 4 else if l.length = (layL l).2 + 23 then 1 else 0)
    else if l.length = (layL l).2 + 24 then (if c = 48 then 6 else 2) else 0)
  else 0
set_option maxHeartbeats 6000000 in
set_option maxRecDepth 20000 in
theorem l1look_48 (w : World) (a : Option Addr) (n cap : Nat) (l : List Nat) (h : isBytes w a n cap l) (hn : l.length ≤ 100000) :
    Calls Try.prog 28 #[.slice a n cap, .int .u8 48] w fun e w' => e = .returned (.int .i64 (lookL l 48 : Nat)) ∧ Below w.heap.size w w' := by
  have H81 : Hid (Calls Try.prog 20 #[.slice a n cap] w fun e w' => e = .returned (.tuple #[.int .i64 ((layL l).1 : Nat), .int .i64 ((layL l).2 : Nat)]) ∧ w = w') := l1lay_any w a n cap l h hn
  have H68 : Hid (Calls Try.prog 26 #[.slice a n cap] w fun e w' => e = .returned (.int .i64 (fieldL l : Nat)) ∧ w = w') := l1field_any w a n cap l h hn
  have H69 : Hid (Calls Try.prog 27 #[.slice a n cap] w fun e w' => e = .returned (.bool (crcOkL l)) ∧ Below w.heap.size w w') := l1crcOk_any w a n cap l h hn
  have hlen := h.len
  subst hlen
  obtain ⟨hh1, hh2⟩ := layL_le l
  have HF : Hid (lookL l 48 = _) := (show lookL l 48 = _ from by unfold lookL; rfl)
  clear h
  generalize (layL l).1 = H at *
  generalize (layL l).2 = E at *
  generalize lookL l 48 = L at *
  generalize fieldL l = F at *
  generalize crcOkL l = ck at *
  generalize l.length = n at *
  by_cases p1 : F = 1
  · have ip1 : ((F : Int) == 1) = true := by first | omega | (simp; omega) | simpa using p1
    have q49 : ¬ (48 : Nat) = 49 := by decide
    have HF' : Hid (L = 0) := by unfold Hid; rw [HF.out, if_pos p1, if_neg q49]
    clear HF p1
    go_enter Try.func28, Try.ntmps28
    go_wp2_with (first | (go_at_call 26; refine H68.out.mono ?_; rintro e w1 ⟨rfl, rfl⟩) | (go_at_call 27; refine H69.out.mono ?_; rintro e w2 ⟨rfl, hb2⟩) | (go_at_call 20; refine H81.out.mono ?_; rintro e w3 ⟨rfl, rfl⟩))
    go_ret
    exact ⟨by rw [HF'.out]; rfl, by first | exact hb2 | exact Below.refl _ _⟩
  · have ip1 : ((F : Int) == 1) = false := by first | omega | (simp; omega) | simpa using p1
    by_cases p11 : F = 11
    · have ip11 : ((F : Int) == 11) = true := by first | omega | (simp; omega) | simpa using p11
      have q48 : (48 : Nat) = 48 := by decide
      have HF' : Hid (L = 4) := by unfold Hid; rw [HF.out, if_neg p1, if_pos p11, if_pos q48]
      clear HF p1 p11
      go_enter Try.func28, Try.ntmps28
      go_wp2_with (first | (go_at_call 26; refine H68.out.mono ?_; rintro e w1 ⟨rfl, rfl⟩) | (go_at_call 27; refine H69.out.mono ?_; rintro e w2 ⟨rfl, hb2⟩) | (go_at_call 20; refine H81.out.mono ?_; rintro e w3 ⟨rfl, rfl⟩))
      go_ret
      exact ⟨by rw [HF'.out]; rfl, by first | exact hb2 | exact Below.refl _ _⟩
    · have ip11 : ((F : Int) == 11) = false := by first | omega | (simp; omega) | simpa using p11
      by_cases p13 : F = 13
      · have ip13 : ((F : Int) == 13) = true := by first | omega | (simp; omega) | simpa using p13
        have q48 : (48 : Nat) = 48 := by decide
        have HF' : Hid (L = 4) := by unfold Hid; rw [HF.out, if_neg p1, if_neg p11, if_pos p13, if_pos q48]
        clear HF p1 p11 p13
        go_enter Try.func28, Try.ntmps28
        go_wp2_with (first | (go_at_call 26; refine H68.out.mono ?_; rintro e w1 ⟨rfl, rfl⟩) | (go_at_call 27; refine H69.out.mono ?_; rintro e w2 ⟨rfl, hb2⟩) | (go_at_call 20; refine H81.out.mono ?_; rintro e w3 ⟨rfl, rfl⟩))
        go_ret
        exact ⟨by rw [HF'.out]; rfl, by first | exact hb2 | exact Below.refl _ _⟩
      · have ip13 : ((F : Int) == 13) = false := by first | omega | (simp; omega) | simpa using p13
        by_cases p14 : F = 14
        · have ip14 : ((F : Int) == 14) = true := by first | omega | (simp; omega) | simpa using p14
          by_cases pk6 : n < E + 24
          · have ipk6 : (n : Int) - (E : Int) - 18 < 6 := by first | omega | (simp; omega) | simpa using pk6
            have q48 : (48 : Nat) = 48 := by decide
            have HF' : Hid (L = 4) := by unfold Hid; rw [HF.out, if_neg p1, if_neg p11, if_neg p13, if_pos p14, if_pos pk6, if_pos q48]
            clear HF p1 p11 p13 p14 pk6
            go_enter Try.func28, Try.ntmps28
            go_wp2_with (first | (go_at_call 26; refine H68.out.mono ?_; rintro e w1 ⟨rfl, rfl⟩) | (go_at_call 27; refine H69.out.mono ?_; rintro e w2 ⟨rfl, hb2⟩) | (go_at_call 20; refine H81.out.mono ?_; rintro e w3 ⟨rfl, rfl⟩))
            go_ret
            exact ⟨by rw [HF'.out]; rfl, by first | exact hb2 | exact Below.refl _ _⟩
          · have ipk6 : ¬ (n : Int) - (E : Int) - 18 < 6 := by first | omega | (simp; omega) | simpa using pk6
            by_cases pk7 : n = E + 24
            · have ipk7 : (((n : Int) - (E : Int) - 18) == 6) = true := by first | omega | (simp; omega) | simpa using pk7
              have q48 : (48 : Nat) = 48 := by decide
              have HF' : Hid (L = 6) := by unfold Hid; rw [HF.out, if_neg p1, if_neg p11, if_neg p13, if_pos p14, if_neg pk6, if_pos pk7, if_pos q48]
              clear HF p1 p11 p13 p14 pk6 pk7
              go_enter Try.func28, Try.ntmps28
              go_wp2_with (first | (go_at_call 26; refine H68.out.mono ?_; rintro e w1 ⟨rfl, rfl⟩) | (go_at_call 27; refine H69.out.mono ?_; rintro e w2 ⟨rfl, hb2⟩) | (go_at_call 20; refine H81.out.mono ?_; rintro e w3 ⟨rfl, rfl⟩))
              go_ret
              exact ⟨by rw [HF'.out]; rfl, by first | exact hb2 | exact Below.refl _ _⟩
            · have ipk7 : (((n : Int) - (E : Int) - 18) == 6) = false := by first | omega | (simp; omega) | simpa using pk7
              have HF' : Hid (L = 0) := by unfold Hid; rw [HF.out, if_neg p1, if_neg p11, if_neg p13, if_pos p14, if_neg pk6, if_neg pk7]
              clear HF p1 p11 p13 p14 pk6 pk7
              go_enter Try.func28, Try.ntmps28
              go_wp2_with (first | (go_at_call 26; refine H68.out.mono ?_; rintro e w1 ⟨rfl, rfl⟩) | (go_at_call 27; refine H69.out.mono ?_; rintro e w2 ⟨rfl, hb2⟩) | (go_at_call 20; refine H81.out.mono ?_; rintro e w3 ⟨rfl, rfl⟩))
              go_ret
              exact ⟨by rw [HF'.out]; rfl, by first | exact hb2 | exact Below.refl _ _⟩
        · have ip14 : ((F : Int) == 14) = false := by first | omega | (simp; omega) | simpa using p14
          have HF' : Hid (L = 0) := by unfold Hid; rw [HF.out, if_neg p1, if_neg p11, if_neg p13, if_neg p14]
          clear HF p1 p11 p13 p14
          go_enter Try.func28, Try.ntmps28
          go_wp2_with (first | (go_at_call 26; refine H68.out.mono ?_; rintro e w1 ⟨rfl, rfl⟩) | (go_at_call 27; refine H69.out.mono ?_; rintro e w2 ⟨rfl, hb2⟩) | (go_at_call 20; refine H81.out.mono ?_; rintro e w3 ⟨rfl, rfl⟩))
          go_ret
          exact ⟨by rw [HF'.out]; rfl, by first | exact hb2 | exact Below.refl _ _⟩
set_option maxHeartbeats 6000000 in
set_option maxRecDepth 20000 in
theorem l1look_49 (w : World) (a : Option Addr) (n cap : Nat) (l : List Nat) (h : isBytes w a n cap l) (hn : l.length ≤ 100000) :
    Calls Try.prog 28 #[.slice a n cap, .int .u8 49] w fun e w' => e = .returned (.int .i64 (lookL l 49 : Nat)) ∧ Below w.heap.size w w' := by
  have H81 : Hid (Calls Try.prog 20 #[.slice a n cap] w fun e w' => e = .returned (.tuple #[.int .i64 ((layL l).1 : Nat), .int .i64 ((layL l).2 : Nat)]) ∧ w = w') := l1lay_any w a n cap l h hn
  have H68 : Hid (Calls Try.prog 26 #[.slice a n cap] w fun e w' => e = .returned (.int .i64 (fieldL l : Nat)) ∧ w = w') := l1field_any w a n cap l h hn
  have H69 : Hid (Calls Try.prog 27 #[.slice a n cap] w fun e w' => e = .returned (.bool (crcOkL l)) ∧ Below w.heap.size w w') := l1crcOk_any w a n cap l h hn
  have hlen := h.len
  subst hlen
  obtain ⟨hh1, hh2⟩ := layL_le l
  have HF : Hid (lookL l 49 = _) := (show lookL l 49 = _ from by unfold lookL; rfl)
  clear h
  generalize (layL l).1 = H at *
  generalize (layL l).2 = E at *
  generalize lookL l 49 = L at *
  generalize fieldL l = F at *
  generalize crcOkL l = ck at *
  generalize l.length = n at *
  by_cases p1 : F = 1
  · have ip1 : ((F : Int) == 1) = true := by first | omega | (simp; omega) | simpa using p1
    have q49 : (49 : Nat) = 49 := by decide
    have HF' : Hid (L = 4) := by unfold Hid; rw [HF.out, if_pos p1, if_pos q49]
    clear HF p1
    go_enter Try.func28, Try.ntmps28
    go_wp2_with (first | (go_at_call 26; refine H68.out.mono ?_; rintro e w1 ⟨rfl, rfl⟩) | (go_at_call 27; refine H69.out.mono ?_; rintro e w2 ⟨rfl, hb2⟩) | (go_at_call 20; refine H81.out.mono ?_; rintro e w3 ⟨rfl, rfl⟩))
    go_ret
    exact ⟨by rw [HF'.out]; rfl, by first | exact hb2 | exact Below.refl _ _⟩
  · have ip1 : ((F : Int) == 1) = false := by first | omega | (simp; omega) | simpa using p1
    by_cases p11 : F = 11
    · have ip11 : ((F : Int) == 11) = true := by first | omega | (simp; omega) | simpa using p11
      have q48 : ¬ (49 : Nat) = 48 := by decide
      have HF' : Hid (L = 0) := by unfold Hid; rw [HF.out, if_neg p1, if_pos p11, if_neg q48]
      clear HF p1 p11
      go_enter Try.func28, Try.ntmps28
      go_wp2_with (first | (go_at_call 26; refine H68.out.mono ?_; rintro e w1 ⟨rfl, rfl⟩) | (go_at_call 27; refine H69.out.mono ?_; rintro e w2 ⟨rfl, hb2⟩) | (go_at_call 20; refine H81.out.mono ?_; rintro e w3 ⟨rfl, rfl⟩))
      go_ret
      exact ⟨by rw [HF'.out]; rfl, by first | exact hb2 | exact Below.refl _ _⟩
    · have ip11 : ((F : Int) == 11) = false := by first | omega | (simp; omega) | simpa using p11
      by_cases p13 : F = 13
      · have ip13 : ((F : Int) == 13) = true := by first | omega | (simp; omega) | simpa using p13
        have q48 : ¬ (49 : Nat) = 48 := by decide
        by_cases pc : ck = false
        · have ipc : ck = false := by first | omega | (simp; omega) | simpa using pc
          have HF' : Hid (L = 5) := by unfold Hid; rw [HF.out, if_neg p1, if_neg p11, if_pos p13, if_neg q48, if_pos pc]
          clear HF p1 p11 p13 pc
          go_enter Try.func28, Try.ntmps28
          go_wp2_with (first | (go_at_call 26; refine H68.out.mono ?_; rintro e w1 ⟨rfl, rfl⟩) | (go_at_call 27; refine H69.out.mono ?_; rintro e w2 ⟨rfl, hb2⟩) | (go_at_call 20; refine H81.out.mono ?_; rintro e w3 ⟨rfl, rfl⟩))
          go_ret
          exact ⟨by rw [HF'.out]; rfl, by first | exact hb2 | exact Below.refl _ _⟩
        · have ipc : ck = true := by first | omega | (simp; omega) | simpa using pc
          have HF' : Hid (L = 0) := by unfold Hid; rw [HF.out, if_neg p1, if_neg p11, if_pos p13, if_neg q48, if_neg pc]
          clear HF p1 p11 p13 pc
          go_enter Try.func28, Try.ntmps28
          go_wp2_with (first | (go_at_call 26; refine H68.out.mono ?_; rintro e w1 ⟨rfl, rfl⟩) | (go_at_call 27; refine H69.out.mono ?_; rintro e w2 ⟨rfl, hb2⟩) | (go_at_call 20; refine H81.out.mono ?_; rintro e w3 ⟨rfl, rfl⟩))
          go_ret
          exact ⟨by rw [HF'.out]; rfl, by first | exact hb2 | exact Below.refl _ _⟩
      · have ip13 : ((F : Int) == 13) = false := by first | omega | (simp; omega) | simpa using p13
        by_cases p14 : F = 14
        · have ip14 : ((F : Int) == 14) = true := by first | omega | (simp; omega) | simpa using p14
          by_cases pk6 : n < E + 24
          · have ipk6 : (n : Int) - (E : Int) - 18 < 6 := by first | omega | (simp; omega) | simpa using pk6
            have q48 : ¬ (49 : Nat) = 48 := by decide
            by_cases pk5 : n = E + 23
            · have ipk5 : (((n : Int) - (E : Int) - 18) == 5) = true := by first | omega | (simp; omega) | simpa using pk5
              have HF' : Hid (L = 1) := by unfold Hid; rw [HF.out, if_neg p1, if_neg p11, if_neg p13, if_pos p14, if_pos pk6, if_neg q48, if_pos pk5]
              clear HF p1 p11 p13 p14 pk6 pk5
              go_enter Try.func28, Try.ntmps28
              go_wp2_with (first | (go_at_call 26; refine H68.out.mono ?_; rintro e w1 ⟨rfl, rfl⟩) | (go_at_call 27; refine H69.out.mono ?_; rintro e w2 ⟨rfl, hb2⟩) | (go_at_call 20; refine H81.out.mono ?_; rintro e w3 ⟨rfl, rfl⟩))
              go_ret
              exact ⟨by rw [HF'.out]; rfl, by first | exact hb2 | exact Below.refl _ _⟩
            · have ipk5 : (((n : Int) - (E : Int) - 18) == 5) = false := by first | omega | (simp; omega) | simpa using pk5
              have HF' : Hid (L = 0) := by unfold Hid; rw [HF.out, if_neg p1, if_neg p11, if_neg p13, if_pos p14, if_pos pk6, if_neg q48, if_neg pk5]
              clear HF p1 p11 p13 p14 pk6 pk5
              go_enter Try.func28, Try.ntmps28
              go_wp2_with (first | (go_at_call 26; refine H68.out.mono ?_; rintro e w1 ⟨rfl, rfl⟩) | (go_at_call 27; refine H69.out.mono ?_; rintro e w2 ⟨rfl, hb2⟩) | (go_at_call 20; refine H81.out.mono ?_; rintro e w3 ⟨rfl, rfl⟩))
              go_ret
              exact ⟨by rw [HF'.out]; rfl, by first | exact hb2 | exact Below.refl _ _⟩
          · have ipk6 : ¬ (n : Int) - (E : Int) - 18 < 6 := by first | omega | (simp; omega) | simpa using pk6
            by_cases pk7 : n = E + 24
            · have ipk7 : (((n : Int) - (E : Int) - 18) == 6) = true := by first | omega | (simp; omega) | simpa using pk7
              have q48 : ¬ (49 : Nat) = 48 := by decide
              have HF' : Hid (L = 2) := by unfold Hid; rw [HF.out, if_neg p1, if_neg p11, if_neg p13, if_pos p14, if_neg pk6, if_pos pk7, if_neg q48]
              clear HF p1 p11 p13 p14 pk6 pk7
              go_enter Try.func28, Try.ntmps28
              go_wp2_with (first | (go_at_call 26; refine H68.out.mono ?_; rintro e w1 ⟨rfl, rfl⟩) | (go_at_call 27; refine H69.out.mono ?_; rintro e w2 ⟨rfl, hb2⟩) | (go_at_call 20; refine H81.out.mono ?_; rintro e w3 ⟨rfl, rfl⟩))
              go_ret
              exact ⟨by rw [HF'.out]; rfl, by first | exact hb2 | exact Below.refl _ _⟩
            · have ipk7 : (((n : Int) - (E : Int) - 18) == 6) = false := by first | omega | (simp; omega) | simpa using pk7
              have HF' : Hid (L = 0) := by unfold Hid; rw [HF.out, if_neg p1, if_neg p11, if_neg p13, if_pos p14, if_neg pk6, if_neg pk7]
              clear HF p1 p11 p13 p14 pk6 pk7
              go_enter Try.func28, Try.ntmps28
              go_wp2_with (first | (go_at_call 26; refine H68.out.mono ?_; rintro e w1 ⟨rfl, rfl⟩) | (go_at_call 27; refine H69.out.mono ?_; rintro e w2 ⟨rfl, hb2⟩) | (go_at_call 20; refine H81.out.mono ?_; rintro e w3 ⟨rfl, rfl⟩))
              go_ret
              exact ⟨by rw [HF'.out]; rfl, by first | exact hb2 | exact Below.refl _ _⟩
        · have ip14 : ((F : Int) == 14) = false := by first | omega | (simp; omega) | simpa using p14
          have HF' : Hid (L = 0) := by unfold Hid; rw [HF.out, if_neg p1, if_neg p11, if_neg p13, if_neg p14]
          clear HF p1 p11 p13 p14
          go_enter Try.func28, Try.ntmps28
          go_wp2_with (first | (go_at_call 26; refine H68.out.mono ?_; rintro e w1 ⟨rfl, rfl⟩) | (go_at_call 27; refine H69.out.mono ?_; rintro e w2 ⟨rfl, hb2⟩) | (go_at_call 20; refine H81.out.mono ?_; rintro e w3 ⟨rfl, rfl⟩))
          go_ret
          exact ⟨by rw [HF'.out]; rfl, by first | exact hb2 | exact Below.refl _ _⟩
theorem l1look_any (w : World) (a : Option Addr) (n cap : Nat) (l : List Nat) (c : Nat) (hc : M.isL c) (h : isBytes w a n cap l) (hn : l.length ≤ 100000) :
    Calls Try.prog 28 #[.slice a n cap, .int .u8 (c : Int)] w fun e w' => e = .returned (.int .i64 (lookL l c : Nat)) ∧ Below w.heap.size w w' := by
  rcases hc with rfl | rfl
  · exact l1look_48 w a n cap l h hn
  · exact l1look_49 w a n cap l h hn
/-- what impl.Decode hands back of a walk -/
def decK (k : Wk) : Wk := if k.code = 1 ∨ k.code = 2 then k else Wk.zero
theorem de_res {w w1 : World} (h : Below (w.alloc (.cells #[.bool false, .int .u32 0, .bool false, .int .i64 0, .slice none 0 0] 34)).heap.size (w.alloc (.cells #[.bool false, .int .u32 0, .bool false, .int .i64 0, .slice none 0 0] 34)) w1) :
    w1.heap[w.heap.size]? = some (.cells #[.bool false, .int .u32 0, .bool false, .int .i64 0, .slice none 0 0] 34 (0, 0)) ∧ Below w.heap.size w w1 := by
  refine ⟨(h.block _ (by simp)).trans (heap_alloc_new w _), ?_⟩
  exact ((Below.refl w.heap.size w).alloc (Nat.le_refl _) _).trans (h.mono (by simp))
theorem ownsB.lower {w : World} {B B' : Nat} {v : Value} {l : List Nat} (h : ownsB w B v l) (hB : B' ≤ B) : ownsB w B' v l := by
  obtain ⟨h1, h2 | ⟨g, cap, cur, rfl, hb, rest⟩⟩ := h
  · exact ⟨h1, .inl h2⟩
  · exact ⟨h1, .inr ⟨g, cap, cur, rfl, Nat.le_trans hB hb, rest⟩⟩
/-- what stands behind the stores into the result's block -/
structure endF (w0 : World) (B g : Nat) (v : Value) (l : List Nat) (W : World) : Prop where
  own : ownsB W B v l
  blk : ∃ cs, W.heap[g]? = some (.cells cs 34 (0, 0))
  bel : Below B w0 W
  le : B ≤ g
theorem endF.set {w0 : World} {B g : Nat} {v : Value} {l : List Nat} {W : World} (h : endF w0 B g v l W) (j : Nat) (x : Value) : endF w0 B g v l (W.setCell ⟨g, j, none⟩ x) := by
  obtain ⟨cs, hc⟩ := h.blk
  refine ⟨h.own.otherBlock (fun i hi => heap_setCell_other W ⟨g, j, none⟩ i x (fun e => ?_)), ⟨_, heap_setCell_same W g j _ _ x hc⟩, h.bel.setCell (by exact h.le) x, h.le⟩
  obtain ⟨c, fz, hc2⟩ := h.own.kind i hi
  have e' : i = g := e
  rw [e', hc] at hc2
  cases hc2
theorem endF.set5 {w0 : World} {B g : Nat} {v : Value} {l : List Nat} {W : World} (h : endF w0 B g v l W) (x0 x1 x2 x3 x4 : Value) : endF w0 B g v l (((((W.setCell ⟨g, 0, none⟩ x0).setCell ⟨g, 1, none⟩ x1).setCell ⟨g, 2, none⟩ x2).setCell ⟨g, 3, none⟩ x3).setCell ⟨g, 4, none⟩ x4) :=
  ((((h.set 0 x0).set 1 x1).set 2 x2).set 3 x3).set 4 x4
theorem endF.drew {w0 : World} {B g : Nat} {v : Value} {l : List Nat} {W : World} (h : endF w0 B g v l W) : endF w0 B g v l W.drew := by
  obtain ⟨cs, hc⟩ := h.blk
  exact ⟨h.own.otherBlock (fun _ _ => rfl), ⟨cs, hc⟩, h.bel.drew, h.le⟩
set_option maxHeartbeats 4000000 in
theorem decode_any (s : ByteArray) (w : World) :
    Calls Try.prog 31 #[.string s] w fun e w' => ∃ ao cap, e = .returned (.tuple #[frV (decK (walkZ s)).ext (decK (walkZ s)).id (decK (walkZ s)).rtr ((decK (walkZ s)).dlc : Int) ao (decK (walkZ s)).data.length cap, .int .i64 ((walkZ s).code : Int)]) ∧ ownsB w' w.heap.size (.slice ao (decK (walkZ s)).data.length cap) (decK (walkZ s)).data ∧ Below w.heap.size w w' := by
  go_enter Try.func31, Try.ntmps31
  go_wp2_with fail
  refine (walkOver_z s _).mono ?_
  rintro e w1 ⟨ao, cap, rfl, ho, hb1⟩
  obtain ⟨hr, hb⟩ := de_res hb1
  have ho' : ownsB w1 w.heap.size (.slice ao (walkZ s).data.length cap) (walkZ s).data := ho.lower (by simp)
  clear hb1 ho
  generalize hz : walkZ s = k at *
  have HZ : Hid (walkZ s = k) := hz
  clear hz
  unfold Wk.val
  have hw : wkAt (w1.alloc (.cells #[.int .i64 (k.field : Int), .int .i64 (k.taken : Int), .int .i32 (k.last.1 : Int), .int .i64 (k.last.2 : Int), .int .i64 (k.sum : Int), .int .i64 (k.crc : Int), .bool k.ext, .int .u32 (k.id : Int), .bool k.rtr, .int .i64 (k.dlc : Int), .slice ao k.data.length cap, .int .i64 (k.code : Int)] 68)) w1.heap.size k (.slice ao k.data.length cap) := heap_alloc_new w1 _
  have he : endF w w.heap.size w.heap.size (.slice ao k.data.length cap) k.data (w1.alloc (.cells #[.int .i64 (k.field : Int), .int .i64 (k.taken : Int), .int .i32 (k.last.1 : Int), .int .i64 (k.last.2 : Int), .int .i64 (k.sum : Int), .int .i64 (k.crc : Int), .bool k.ext, .int .u32 (k.id : Int), .bool k.rtr, .int .i64 (k.dlc : Int), .slice ao k.data.length cap, .int .i64 (k.code : Int)] 68)) := ⟨World.ownsRow.alloc ho' _, ⟨_, (Below.heap_alloc w1 _ w.heap.size (lt_of_block hr)).trans hr⟩, hb.alloc hb.size _, Nat.le_refl _⟩
  have hrr : (w1.alloc (.cells #[.int .i64 (k.field : Int), .int .i64 (k.taken : Int), .int .i32 (k.last.1 : Int), .int .i64 (k.last.2 : Int), .int .i64 (k.sum : Int), .int .i64 (k.crc : Int), .bool k.ext, .int .u32 (k.id : Int), .bool k.rtr, .int .i64 (k.dlc : Int), .slice ao k.data.length cap, .int .i64 (k.code : Int)] 68)).heap[w.heap.size]? = some (.cells #[.bool false, .int .u32 0, .bool false, .int .i64 0, .slice none 0 0] 34 (0, 0)) := (Below.heap_alloc w1 _ w.heap.size (lt_of_block hr)).trans hr
  obtain ⟨c0, c1, c2, c3, c4, c5, c6, c7, c8, c9, c10, c11⟩ := hw.cells
  have d0 : (w1.alloc (.cells #[.int .i64 (k.field : Int), .int .i64 (k.taken : Int), .int .i32 (k.last.1 : Int), .int .i64 (k.last.2 : Int), .int .i64 (k.sum : Int), .int .i64 (k.crc : Int), .bool k.ext, .int .u32 (k.id : Int), .bool k.rtr, .int .i64 (k.dlc : Int), .slice ao k.data.length cap, .int .i64 (k.code : Int)] 68)).cell? ⟨w.heap.size, 0, none⟩ = some (.bool false) := by simp [World.cell?, hrr]
  have d1 : (w1.alloc (.cells #[.int .i64 (k.field : Int), .int .i64 (k.taken : Int), .int .i32 (k.last.1 : Int), .int .i64 (k.last.2 : Int), .int .i64 (k.sum : Int), .int .i64 (k.crc : Int), .bool k.ext, .int .u32 (k.id : Int), .bool k.rtr, .int .i64 (k.dlc : Int), .slice ao k.data.length cap, .int .i64 (k.code : Int)] 68)).cell? ⟨w.heap.size, 1, none⟩ = some (.int .u32 0) := by simp [World.cell?, hrr]
  have d2 : (w1.alloc (.cells #[.int .i64 (k.field : Int), .int .i64 (k.taken : Int), .int .i32 (k.last.1 : Int), .int .i64 (k.last.2 : Int), .int .i64 (k.sum : Int), .int .i64 (k.crc : Int), .bool k.ext, .int .u32 (k.id : Int), .bool k.rtr, .int .i64 (k.dlc : Int), .slice ao k.data.length cap, .int .i64 (k.code : Int)] 68)).cell? ⟨w.heap.size, 2, none⟩ = some (.bool false) := by simp [World.cell?, hrr]
  have d3 : (w1.alloc (.cells #[.int .i64 (k.field : Int), .int .i64 (k.taken : Int), .int .i32 (k.last.1 : Int), .int .i64 (k.last.2 : Int), .int .i64 (k.sum : Int), .int .i64 (k.crc : Int), .bool k.ext, .int .u32 (k.id : Int), .bool k.rtr, .int .i64 (k.dlc : Int), .slice ao k.data.length cap, .int .i64 (k.code : Int)] 68)).cell? ⟨w.heap.size, 3, none⟩ = some (.int .i64 0) := by simp [World.cell?, hrr]
  have d4 : (w1.alloc (.cells #[.int .i64 (k.field : Int), .int .i64 (k.taken : Int), .int .i32 (k.last.1 : Int), .int .i64 (k.last.2 : Int), .int .i64 (k.sum : Int), .int .i64 (k.crc : Int), .bool k.ext, .int .u32 (k.id : Int), .bool k.rtr, .int .i64 (k.dlc : Int), .slice ao k.data.length cap, .int .i64 (k.code : Int)] 68)).cell? ⟨w.heap.size, 4, none⟩ = some (.slice none 0 0) := by simp [World.cell?, hrr]
  have z0 : (w1.alloc (.cells #[.int .i64 (k.field : Int), .int .i64 (k.taken : Int), .int .i32 (k.last.1 : Int), .int .i64 (k.last.2 : Int), .int .i64 (k.sum : Int), .int .i64 (k.crc : Int), .bool k.ext, .int .u32 (k.id : Int), .bool k.rtr, .int .i64 (k.dlc : Int), .slice ao k.data.length cap, .int .i64 (k.code : Int)] 68)).frozen? ⟨w.heap.size, 0, none⟩ = false := by simp [World.frozen?, hrr]
  have z1 : (w1.alloc (.cells #[.int .i64 (k.field : Int), .int .i64 (k.taken : Int), .int .i32 (k.last.1 : Int), .int .i64 (k.last.2 : Int), .int .i64 (k.sum : Int), .int .i64 (k.crc : Int), .bool k.ext, .int .u32 (k.id : Int), .bool k.rtr, .int .i64 (k.dlc : Int), .slice ao k.data.length cap, .int .i64 (k.code : Int)] 68)).frozen? ⟨w.heap.size, 1, none⟩ = false := by simp [World.frozen?, hrr]
  have z2 : (w1.alloc (.cells #[.int .i64 (k.field : Int), .int .i64 (k.taken : Int), .int .i32 (k.last.1 : Int), .int .i64 (k.last.2 : Int), .int .i64 (k.sum : Int), .int .i64 (k.crc : Int), .bool k.ext, .int .u32 (k.id : Int), .bool k.rtr, .int .i64 (k.dlc : Int), .slice ao k.data.length cap, .int .i64 (k.code : Int)] 68)).frozen? ⟨w.heap.size, 2, none⟩ = false := by simp [World.frozen?, hrr]
  have z3 : (w1.alloc (.cells #[.int .i64 (k.field : Int), .int .i64 (k.taken : Int), .int .i32 (k.last.1 : Int), .int .i64 (k.last.2 : Int), .int .i64 (k.sum : Int), .int .i64 (k.crc : Int), .bool k.ext, .int .u32 (k.id : Int), .bool k.rtr, .int .i64 (k.dlc : Int), .slice ao k.data.length cap, .int .i64 (k.code : Int)] 68)).frozen? ⟨w.heap.size, 3, none⟩ = false := by simp [World.frozen?, hrr]
  have z4 : (w1.alloc (.cells #[.int .i64 (k.field : Int), .int .i64 (k.taken : Int), .int .i32 (k.last.1 : Int), .int .i64 (k.last.2 : Int), .int .i64 (k.sum : Int), .int .i64 (k.crc : Int), .bool k.ext, .int .u32 (k.id : Int), .bool k.rtr, .int .i64 (k.dlc : Int), .slice ao k.data.length cap, .int .i64 (k.code : Int)] 68)).frozen? ⟨w.heap.size, 4, none⟩ = false := by simp [World.frozen?, hrr]
  have HE : Hid (endF w w.heap.size w.heap.size (.slice ao k.data.length cap) k.data (w1.alloc (.cells #[.int .i64 (k.field : Int), .int .i64 (k.taken : Int), .int .i32 (k.last.1 : Int), .int .i64 (k.last.2 : Int), .int .i64 (k.sum : Int), .int .i64 (k.crc : Int), .bool k.ext, .int .u32 (k.id : Int), .bool k.rtr, .int .i64 (k.dlc : Int), .slice ao k.data.length cap, .int .i64 (k.code : Int)] 68))) := he
  clear hr hb hw he hrr ho'
  by_cases hc : k.code = 1 ∨ k.code = 2
  · have HD : Hid (decK (walkZ s) = k) := by unfold Hid; rw [HZ.out]; unfold decK; rw [if_pos hc]
    have h12 : (((k.code : Int) != 1) = false ∧ ((k.code : Int) != 2) = true) ∨ (((k.code : Int) != 1) = true ∧ ((k.code : Int) != 2) = false) := by
      rcases hc with h | h <;> rw [h] <;> decide
    clear hc
    rcases h12 with ⟨h1, h2⟩ | ⟨h1, h2⟩
    · go_wp2
      generalize w1.alloc (.cells #[.int .i64 (k.field : Int), .int .i64 (k.taken : Int), .int .i32 (k.last.1 : Int), .int .i64 (k.last.2 : Int), .int .i64 (k.sum : Int), .int .i64 (k.crc : Int), .bool k.ext, .int .u32 (k.id : Int), .bool k.rtr, .int .i64 (k.dlc : Int), .slice ao k.data.length cap, .int .i64 (k.code : Int)] 68) = W at *
      generalize w1.heap.size = b at *
      go_region
      all_goals
        go_wp2
        refine bodyPost_ret (v := .tuple #[frV k.ext k.id k.rtr (k.dlc : Int) ao k.data.length cap, .int .i64 (k.code : Int)]) ?_ rfl ⟨ao, cap, by rw [HD.out, HZ.out], ?_⟩
        · simp [results, Try.results31, go_sem, d0, d1, d2, d3, d4]
        · rw [HD.out]
          have := HE.out.drew.set5 (.bool k.ext) (.int .u32 (k.id : Int)) (.bool k.rtr) (.int .i64 (k.dlc : Int)) (.slice ao k.data.length cap)
          exact ⟨this.own, this.bel⟩
    · go_wp2
      generalize w1.alloc (.cells #[.int .i64 (k.field : Int), .int .i64 (k.taken : Int), .int .i32 (k.last.1 : Int), .int .i64 (k.last.2 : Int), .int .i64 (k.sum : Int), .int .i64 (k.crc : Int), .bool k.ext, .int .u32 (k.id : Int), .bool k.rtr, .int .i64 (k.dlc : Int), .slice ao k.data.length cap, .int .i64 (k.code : Int)] 68) = W at *
      generalize w1.heap.size = b at *
      go_region
      all_goals
        go_wp2
        refine bodyPost_ret (v := .tuple #[frV k.ext k.id k.rtr (k.dlc : Int) ao k.data.length cap, .int .i64 (k.code : Int)]) ?_ rfl ⟨ao, cap, by rw [HD.out, HZ.out], ?_⟩
        · simp [results, Try.results31, go_sem, d0, d1, d2, d3, d4]
        · rw [HD.out]
          have := HE.out.drew.set5 (.bool k.ext) (.int .u32 (k.id : Int)) (.bool k.rtr) (.int .i64 (k.dlc : Int)) (.slice ao k.data.length cap)
          exact ⟨this.own, this.bel⟩
  · have HD : Hid (decK (walkZ s) = Wk.zero) := by unfold Hid; rw [HZ.out]; unfold decK; rw [if_neg hc]
    have h1 : ((k.code : Int) != 1) = true := by simp; omega
    have h2 : ((k.code : Int) != 2) = true := by simp; omega
    clear hc
    go_wp2
    generalize w1.alloc (.cells #[.int .i64 (k.field : Int), .int .i64 (k.taken : Int), .int .i32 (k.last.1 : Int), .int .i64 (k.last.2 : Int), .int .i64 (k.sum : Int), .int .i64 (k.crc : Int), .bool k.ext, .int .u32 (k.id : Int), .bool k.rtr, .int .i64 (k.dlc : Int), .slice ao k.data.length cap, .int .i64 (k.code : Int)] 68) = W at *
    generalize w1.heap.size = b at *
    go_region
    all_goals
      go_wp2
      refine bodyPost_ret (v := .tuple #[frV false 0 false 0 none 0 0, .int .i64 (k.code : Int)]) ?_ rfl ⟨none, 0, by rw [HD.out, HZ.out]; rfl, ?_⟩
      · simp [results, Try.results31, go_sem, d0, d1, d2, d3, d4]
      · rw [HD.out]
        have := HE.out.drew.set5 (.bool false) (.int .u32 0) (.bool false) (.int .i64 0) (.slice none 0 0)
        exact ⟨own_none _ _, this.bel⟩
end Go.Proofs.Ytiaddabmiponoaa
