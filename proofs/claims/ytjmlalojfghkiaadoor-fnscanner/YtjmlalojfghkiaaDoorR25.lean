import Derived.Test.YtjmlalojfghkiaaDoorR24
namespace Go.Proofs.YtjmlalojfghkiaaDoor.J
open Go.RowKit
/-- the fifteen letters behind place e are the sum of those ahead of it -/
def crcOkL (l : List Nat) : Bool := decide (¬ ((layL l).2 = 0 ∨ l.length < (layL l).2 + 15)) && decide (crcZ (strN (l.take (layL l).2)) = (valL ((l.drop (layL l).2).take 15) : Nat))
theorem ck_S {w V V' : World} {g off E cap : Nat} {t1 t2 : ByteArray} {l1 l2 : List Nat} (e1 : strN l1 = t1) (e2 : strN l2 = t2) (h : (convert 23 9 (.slice (some ⟨g, off, none⟩) E cap)).run Tryd.prog V = .ok (.string t1) V ∧ (convert 23 9 (.slice (some ⟨g, off + E, none⟩) 15 (cap - E))).run Tryd.prog V = .ok (.string t2) V ∧ isBytes V (some ⟨g, off, none⟩) E cap l1 ∧ isBytes V (some ⟨g, off + E, none⟩) 15 (cap - E) l2 ∧ Below w.heap.size w V) (hb : Below V.heap.size V V') (hz : w.heap.size ≤ V.heap.size) : (convert 23 9 (.slice (some ⟨g, off, none⟩) E cap)).run Tryd.prog V' = .ok (.string t1) V' ∧ (convert 23 9 (.slice (some ⟨g, off + E, none⟩) 15 (cap - E))).run Tryd.prog V' = .ok (.string t2) V' ∧ isBytes V' (some ⟨g, off, none⟩) E cap l1 ∧ isBytes V' (some ⟨g, off + E, none⟩) 15 (cap - E) l2 ∧ Below w.heap.size w V' := by
  obtain ⟨-, -, b1, b2, b3⟩ := h
  have b1' := b1.below hb
  have b2' := b2.below hb
  subst e1 e2
  exact ⟨convB b1', convB b2', b1', b2', b3.trans (hb.mono hz)⟩
theorem ck_be {w V : World} {g off E cap : Nat} {t1 t2 : ByteArray} {l1 l2 : List Nat} (h : (convert 23 9 (.slice (some ⟨g, off, none⟩) E cap)).run Tryd.prog V = .ok (.string t1) V ∧ (convert 23 9 (.slice (some ⟨g, off + E, none⟩) 15 (cap - E))).run Tryd.prog V = .ok (.string t2) V ∧ isBytes V (some ⟨g, off, none⟩) E cap l1 ∧ isBytes V (some ⟨g, off + E, none⟩) 15 (cap - E) l2 ∧ Below w.heap.size w V) : Below w.heap.size w V := h.2.2.2.2
theorem ck_S0 {w : World} {g off E cap : Nat} {t1 t2 : ByteArray} {l1 l2 : List Nat} (e1 : strN l1 = t1) (e2 : strN l2 = t2) (b1 : isBytes w (some ⟨g, off, none⟩) E cap l1) (b2 : isBytes w (some ⟨g, off + E, none⟩) 15 (cap - E) l2) : (convert 23 9 (.slice (some ⟨g, off, none⟩) E cap)).run Tryd.prog w.drew = .ok (.string t1) w.drew ∧ (convert 23 9 (.slice (some ⟨g, off + E, none⟩) 15 (cap - E))).run Tryd.prog w.drew = .ok (.string t2) w.drew ∧ isBytes w.drew (some ⟨g, off, none⟩) E cap l1 ∧ isBytes w.drew (some ⟨g, off + E, none⟩) 15 (cap - E) l2 ∧ Below w.heap.size w w.drew := by
  have b1' : isBytes w.drew (some ⟨g, off, none⟩) E cap l1 := b1.below (Below.refl _ _).drew
  have b2' : isBytes w.drew (some ⟨g, off + E, none⟩) 15 (cap - E) l2 := b2.below (Below.refl _ _).drew
  subst e1 e2
  exact ⟨convB b1', convB b2', b1', b2', (Below.refl _ _).drew⟩
theorem wrap15 (E : Nat) (h : E ≤ 103) : IntKind.i64.wrap ((E : Int) + 15) = (E : Int) + 15 := by
  simp [IntKind.wrap, IntKind.bits, IntKind.signed]
  omega
theorem l1val15 (w : World) {l : List Nat} (h : ∀ x ∈ l, x < 256) (hl : l.length ≤ 15) : Calls Tryd.prog 74 #[.string (strN l)] w fun e w' => e = .returned (.int .i64 (valL l : Nat)) ∧ w = w' := by
  have hz : (strN l).size ≤ 40 := by rw [strN_size]; omega
  have := l1val_any (strN l) w hz
  rw [lt_strN _ h] at this
  exact this
set_option maxHeartbeats 4000000 in
set_option maxRecDepth 20000 in
theorem l1crcOk_any (w : World) (a : Option Addr) (n cap : Nat) (l : List Nat) (h : isBytes w a n cap l) (hn : l.length ≤ 100000) :
    Calls Tryd.prog 45 #[.slice a n cap] w fun e w' => e = .returned (.bool (crcOkL l)) ∧ Below w.heap.size w w' := by
  have HC : Hid (Calls Tryd.prog 72 #[.slice a n cap] w fun e w' => e = .returned (.tuple #[.int .i64 ((layL l).1 : Nat), .int .i64 ((layL l).2 : Nat)]) ∧ w = w') := l1lay_any w a n cap l h hn
  have hlen := h.len
  have hcap := h.cap
  subst hlen
  obtain ⟨hh1, hh2⟩ := layL_le l
  by_cases h0 : (layL l).2 = 0
  · have HF : Hid (crcOkL l = false) := by unfold Hid crcOkL; rw [decide_eq_false (by simp [h0])]; rfl
    have h0' : (((layL l).2 : Int) == 0) = true := by simp; omega
    clear h h0
    generalize (layL l).1 = H at *
    generalize (layL l).2 = E at *
    generalize l.length = n at *
    go_enter Tryd.func45, Tryd.ntmps45
    go_wp2_with (go_at_call 72; refine HC.out.mono ?_; rintro e w1 ⟨rfl, rfl⟩)
    go_ret
    exact ⟨ret_bool HF.out.symm, Below.refl _ _⟩
  · have h0' : (((layL l).2 : Int) == 0) = false := by simp; omega
    by_cases h15 : l.length < (layL l).2 + 15
    · have HF : Hid (crcOkL l = false) := by unfold Hid crcOkL; rw [decide_eq_false (by simp [h15])]; rfl
      have h15' : (l.length : Int) < ((layL l).2 : Int) + 15 := by omega
      clear h h0 h15
      generalize (layL l).1 = H at *
      generalize (layL l).2 = E at *
      generalize l.length = n at *
      go_enter Tryd.func45, Tryd.ntmps45
      go_wp2_with (go_at_call 72; refine HC.out.mono ?_; rintro e w1 ⟨rfl, rfl⟩)
      go_ret
      exact ⟨ret_bool HF.out.symm, Below.refl _ _⟩
    · have h15' : ¬ (l.length : Int) < ((layL l).2 : Int) + 15 := by omega
      obtain ⟨g, off, rfl, -⟩ := h.cells (by intro e; rw [e] at h15; simp at h15)
      have b1 : isBytes w (some ⟨g, off, none⟩) (layL l).2 cap (l.take (layL l).2) := by
        have := h.sub 0 (layL l).2 cap (by omega) (by omega) (by omega)
        rwa [List.drop_zero, Nat.add_zero] at this
      have b2 := h.sub (layL l).2 15 (cap - (layL l).2) (by omega) (by decide) (by omega)
      have HF : Hid (crcOkL l = decide (crcZ (strN (l.take (layL l).2)) = (valL ((l.drop (layL l).2).take 15) : Nat))) := by unfold Hid crcOkL; rw [decide_eq_true (p := ¬ _) (by omega)]; simp
      have HV : Hid (∀ w, Calls Tryd.prog 74 #[.string (strN ((l.drop (layL l).2).take 15))] w fun e w' => e = .returned (.int .i64 (valL ((l.drop (layL l).2).take 15) : Nat)) ∧ w = w') := fun w => l1val15 w b2.small (by rw [List.length_take]; omega)
      have hz1 : (strN (l.take (layL l).2)).size ≤ maxLen := by rw [strN_size, List.length_take]; unfold maxLen; omega
      have HK : Hid (∀ w, Calls Tryd.prog 73 #[.string (strN (l.take (layL l).2))] w fun e w' => e = .returned (.int .i64 (crcZ (strN (l.take (layL l).2)))) ∧ Below w.heap.size w w') := fun w => specCrc_any _ w hz1
      clear h h0 h15 hz1
      generalize (layL l).1 = H at *
      generalize (layL l).2 = E at *
      generalize l.take E = l1 at *
      generalize (l.drop E).take 15 = l2 at *
      generalize e1 : strN l1 = t1 at *
      generalize e2 : strN l2 = t2 at *
      generalize l.length = n at *
      generalize valL l2 = v2 at *
      generalize crcZ t1 = z1 at *
      have hS0 := ck_S0 e1 e2 b1 b2
      have k1 : (0 : Int) ≤ (E : Int) := by omega
      have k2 : (E : Int) ≤ (cap : Int) := by omega
      have k3 : (E : Int) + 15 ≤ (cap : Int) := by omega
      have k4 : (E : Int) ≤ (E : Int) + 15 := by omega
      have k5 : (0 : Int) ≤ (E : Int) + 15 := by omega
      have k6 : ¬ cap = E := by omega
      have k10 : ¬ cap - E = 0 := by omega
      have k11 : IntKind.i64.wrap ((E : Int) + 15) = (E : Int) + 15 := wrap15 E hh2
      have k7 : ((E : Int) + 15 - (E : Int)).toNat = 15 := by omega
      have k8 : ((E : Int) + 15).toNat = E + 15 := by omega
      have k9 : E + 15 - E = 15 := by omega
      have E12 : Hid (strN l1 = t1 ∧ strN l2 = t2) := ⟨e1, e2⟩
      clear e1 e2
      go_enter Tryd.func45, Tryd.ntmps45
      go_wp2_with (go_at_call 72; refine HC.out.mono ?_; rintro e w1 ⟨rfl, rfl⟩)
      go_region_held3 (fun V => (convert 23 9 (.slice (some ⟨g, off, none⟩) E cap)).run Tryd.prog V = .ok (.string t1) V ∧ (convert 23 9 (.slice (some ⟨g, off + E, none⟩) 15 (cap - E))).run Tryd.prog V = .ok (.string t2) V ∧ isBytes V (some ⟨g, off, none⟩) E cap l1 ∧ isBytes V (some ⟨g, off + E, none⟩) 15 (cap - E) l2 ∧ Below w.heap.size w V) (first | exact hS0 | assumption | exact ck_S E12.out.1 E12.out.2 (by assumption) (by assumption) (ck_be (by assumption)).size) (first | (go_at_call 73; refine (HK.out _).mono ?_; rintro o w2 ⟨rfl, hb2⟩) | (go_at_call 74; refine (HV.out _).mono ?_; rintro o w3 ⟨rfl, rfl⟩))
      all_goals
        go_wp2
        go_ret
        exact ⟨ret_bool (by rw [HF.out, Bool.eq_iff_iff]; simp), (Below.refl _ _).drew.trans (hb2.mono (by simp))⟩
/-- the verdict on one more plain letter -/
def lookL (l : List Nat) (c : Nat) : Nat :=
  if fieldL l = 1 then (if c = 49 then 4 else 0) else if fieldL l = 11 then (if c = 48 then 4 else 0)
  else if fieldL l = 13 then (if c = 48 then 4 else if crcOkL l = false then 5 else 0)
  else if fieldL l = 14 then (if l.length < (layL l).2 + 24 then (if c = 48 then 4 else if l.length = (layL l).2 + 23 then 1 else 0)
    else if l.length = (layL l).2 + 24 then (if c = 48 then 6 else 2) else 0)
  else 0
set_option maxHeartbeats 6000000 in
set_option maxRecDepth 20000 in
theorem l1look_48 (w : World) (a : Option Addr) (n cap : Nat) (l : List Nat) (h : isBytes w a n cap l) (hn : l.length ≤ 100000) :
    Calls Tryd.prog 70 #[.slice a n cap, .int .u8 48] w fun e w' => e = .returned (.int .i64 (lookL l 48 : Nat)) ∧ Below w.heap.size w w' := by
  have H81 : Hid (Calls Tryd.prog 72 #[.slice a n cap] w fun e w' => e = .returned (.tuple #[.int .i64 ((layL l).1 : Nat), .int .i64 ((layL l).2 : Nat)]) ∧ w = w') := l1lay_any w a n cap l h hn
  have H68 : Hid (Calls Tryd.prog 44 #[.slice a n cap] w fun e w' => e = .returned (.int .i64 (fieldL l : Nat)) ∧ w = w') := l1field_any w a n cap l h hn
  have H69 : Hid (Calls Tryd.prog 45 #[.slice a n cap] w fun e w' => e = .returned (.bool (crcOkL l)) ∧ Below w.heap.size w w') := l1crcOk_any w a n cap l h hn
  have hlen := h.len
  subst hlen
  obtain ⟨hh1, hh2⟩ := layL_le l
  have HF : Hid (lookL l 48 = _) := (show lookL l 48 = _ from by unfold lookL; rfl)
  clear h
  generalize (layL l).1 = H at *
  generalize (layL l).2 = E at *
  generalize lookL l 48 = L at *
  generalize fieldL l = F at *
  generalize crcOkL l = ck at *
  generalize l.length = n at *
  by_cases p1 : F = 1
  · have ip1 : ((F : Int) == 1) = true := by first | omega | (simp; omega) | simpa using p1
    have q49 : ¬ (48 : Nat) = 49 := by decide
    have HF' : Hid (L = 0) := by unfold Hid; rw [HF.out, if_pos p1, if_neg q49]
    clear HF p1
    go_enter Tryd.func70, Tryd.ntmps70
    go_wp2_with (first | (go_at_call 44; refine H68.out.mono ?_; rintro e w1 ⟨rfl, rfl⟩) | (go_at_call 45; refine H69.out.mono ?_; rintro e w2 ⟨rfl, hb2⟩) | (go_at_call 72; refine H81.out.mono ?_; rintro e w3 ⟨rfl, rfl⟩))
    go_ret
    exact ⟨by rw [HF'.out]; rfl, by first | exact hb2 | exact Below.refl _ _⟩
  · have ip1 : ((F : Int) == 1) = false := by first | omega | (simp; omega) | simpa using p1
    by_cases p11 : F = 11
    · have ip11 : ((F : Int) == 11) = true := by first | omega | (simp; omega) | simpa using p11
      have q48 : (48 : Nat) = 48 := by decide
      have HF' : Hid (L = 4) := by unfold Hid; rw [HF.out, if_neg p1, if_pos p11, if_pos q48]
      clear HF p1 p11
      go_enter Tryd.func70, Tryd.ntmps70
      go_wp2_with (first | (go_at_call 44; refine H68.out.mono ?_; rintro e w1 ⟨rfl, rfl⟩) | (go_at_call 45; refine H69.out.mono ?_; rintro e w2 ⟨rfl, hb2⟩) | (go_at_call 72; refine H81.out.mono ?_; rintro e w3 ⟨rfl, rfl⟩))
      go_ret
      exact ⟨by rw [HF'.out]; rfl, by first | exact hb2 | exact Below.refl _ _⟩
    · have ip11 : ((F : Int) == 11) = false := by first | omega | (simp; omega) | simpa using p11
      by_cases p13 : F = 13
      · have ip13 : ((F : Int) == 13) = true := by first | omega | (simp; omega) | simpa using p13
        have q48 : (48 : Nat) = 48 := by decide
        have HF' : Hid (L = 4) := by unfold Hid; rw [HF.out, if_neg p1, if_neg p11, if_pos p13, if_pos q48]
        clear HF p1 p11 p13
        go_enter Tryd.func70, Tryd.ntmps70
        go_wp2_with (first | (go_at_call 44; refine H68.out.mono ?_; rintro e w1 ⟨rfl, rfl⟩) | (go_at_call 45; refine H69.out.mono ?_; rintro e w2 ⟨rfl, hb2⟩) | (go_at_call 72; refine H81.out.mono ?_; rintro e w3 ⟨rfl, rfl⟩))
        go_ret
        exact ⟨by rw [HF'.out]; rfl, by first | exact hb2 | exact Below.refl _ _⟩
      · have ip13 : ((F : Int) == 13) = false := by first | omega | (simp; omega) | simpa using p13
        by_cases p14 : F = 14
        · have ip14 : ((F : Int) == 14) = true := by first | omega | (simp; omega) | simpa using p14
          by_cases pk6 : n < E + 24
          · have ipk6 : (n : Int) - (E : Int) - 18 < 6 := by first | omega | (simp; omega) | simpa using pk6
            have q48 : (48 : Nat) = 48 := by decide
            have HF' : Hid (L = 4) := by unfold Hid; rw [HF.out, if_neg p1, if_neg p11, if_neg p13, if_pos p14, if_pos pk6, if_pos q48]
            clear HF p1 p11 p13 p14 pk6
            go_enter Tryd.func70, Tryd.ntmps70
            go_wp2_with (first | (go_at_call 44; refine H68.out.mono ?_; rintro e w1 ⟨rfl, rfl⟩) | (go_at_call 45; refine H69.out.mono ?_; rintro e w2 ⟨rfl, hb2⟩) | (go_at_call 72; refine H81.out.mono ?_; rintro e w3 ⟨rfl, rfl⟩))
            go_ret
            exact ⟨by rw [HF'.out]; rfl, by first | exact hb2 | exact Below.refl _ _⟩
          · have ipk6 : ¬ (n : Int) - (E : Int) - 18 < 6 := by first | omega | (simp; omega) | simpa using pk6
            by_cases pk7 : n = E + 24
            · have ipk7 : (((n : Int) - (E : Int) - 18) == 6) = true := by first | omega | (simp; omega) | simpa using pk7
              have q48 : (48 : Nat) = 48 := by decide
              have HF' : Hid (L = 6) := by unfold Hid; rw [HF.out, if_neg p1, if_neg p11, if_neg p13, if_pos p14, if_neg pk6, if_pos pk7, if_pos q48]
              clear HF p1 p11 p13 p14 pk6 pk7
              go_enter Tryd.func70, Tryd.ntmps70
              go_wp2_with (first | (go_at_call 44; refine H68.out.mono ?_; rintro e w1 ⟨rfl, rfl⟩) | (go_at_call 45; refine H69.out.mono ?_; rintro e w2 ⟨rfl, hb2⟩) | (go_at_call 72; refine H81.out.mono ?_; rintro e w3 ⟨rfl, rfl⟩))
              go_ret
              exact ⟨by rw [HF'.out]; rfl, by first | exact hb2 | exact Below.refl _ _⟩
            · have ipk7 : (((n : Int) - (E : Int) - 18) == 6) = false := by first | omega | (simp; omega) | simpa using pk7
              have HF' : Hid (L = 0) := by unfold Hid; rw [HF.out, if_neg p1, if_neg p11, if_neg p13, if_pos p14, if_neg pk6, if_neg pk7]
              clear HF p1 p11 p13 p14 pk6 pk7
              go_enter Tryd.func70, Tryd.ntmps70
              go_wp2_with (first | (go_at_call 44; refine H68.out.mono ?_; rintro e w1 ⟨rfl, rfl⟩) | (go_at_call 45; refine H69.out.mono ?_; rintro e w2 ⟨rfl, hb2⟩) | (go_at_call 72; refine H81.out.mono ?_; rintro e w3 ⟨rfl, rfl⟩))
              go_ret
              exact ⟨by rw [HF'.out]; rfl, by first | exact hb2 | exact Below.refl _ _⟩
        · have ip14 : ((F : Int) == 14) = false := by first | omega | (simp; omega) | simpa using p14
          have HF' : Hid (L = 0) := by unfold Hid; rw [HF.out, if_neg p1, if_neg p11, if_neg p13, if_neg p14]
          clear HF p1 p11 p13 p14
          go_enter Tryd.func70, Tryd.ntmps70
          go_wp2_with (first | (go_at_call 44; refine H68.out.mono ?_; rintro e w1 ⟨rfl, rfl⟩) | (go_at_call 45; refine H69.out.mono ?_; rintro e w2 ⟨rfl, hb2⟩) | (go_at_call 72; refine H81.out.mono ?_; rintro e w3 ⟨rfl, rfl⟩))
          go_ret
          exact ⟨by rw [HF'.out]; rfl, by first | exact hb2 | exact Below.refl _ _⟩
set_option maxHeartbeats 6000000 in
set_option maxRecDepth 20000 in
theorem l1look_49 (w : World) (a : Option Addr) (n cap : Nat) (l : List Nat) (h : isBytes w a n cap l) (hn : l.length ≤ 100000) :
    Calls Tryd.prog 70 #[.slice a n cap, .int .u8 49] w fun e w' => e = .returned (.int .i64 (lookL l 49 : Nat)) ∧ Below w.heap.size w w' := by
  have H81 : Hid (Calls Tryd.prog 72 #[.slice a n cap] w fun e w' => e = .returned (.tuple #[.int .i64 ((layL l).1 : Nat), .int .i64 ((layL l).2 : Nat)]) ∧ w = w') := l1lay_any w a n cap l h hn
  have H68 : Hid (Calls Tryd.prog 44 #[.slice a n cap] w fun e w' => e = .returned (.int .i64 (fieldL l : Nat)) ∧ w = w') := l1field_any w a n cap l h hn
  have H69 : Hid (Calls Tryd.prog 45 #[.slice a n cap] w fun e w' => e = .returned (.bool (crcOkL l)) ∧ Below w.heap.size w w') := l1crcOk_any w a n cap l h hn
  have hlen := h.len
  subst hlen
  obtain ⟨hh1, hh2⟩ := layL_le l
  have HF : Hid (lookL l 49 = _) := (show lookL l 49 = _ from by unfold lookL; rfl)
  clear h
  generalize (layL l).1 = H at *
  generalize (layL l).2 = E at *
  generalize lookL l 49 = L at *
  generalize fieldL l = F at *
  generalize crcOkL l = ck at *
  generalize l.length = n at *
  by_cases p1 : F = 1
  · have ip1 : ((F : Int) == 1) = true := by first | omega | (simp; omega) | simpa using p1
    have q49 : (49 : Nat) = 49 := by decide
    have HF' : Hid (L = 4) := by unfold Hid; rw [HF.out, if_pos p1, if_pos q49]
    clear HF p1
    go_enter Tryd.func70, Tryd.ntmps70
    go_wp2_with (first | (go_at_call 44; refine H68.out.mono ?_; rintro e w1 ⟨rfl, rfl⟩) | (go_at_call 45; refine H69.out.mono ?_; rintro e w2 ⟨rfl, hb2⟩) | (go_at_call 72; refine H81.out.mono ?_; rintro e w3 ⟨rfl, rfl⟩))
    go_ret
    exact ⟨by rw [HF'.out]; rfl, by first | exact hb2 | exact Below.refl _ _⟩
  · have ip1 : ((F : Int) == 1) = false := by first | omega | (simp; omega) | simpa using p1
    by_cases p11 : F = 11
    · have ip11 : ((F : Int) == 11) = true := by first | omega | (simp; omega) | simpa using p11
      have q48 : ¬ (49 : Nat) = 48 := by decide
      have HF' : Hid (L = 0) := by unfold Hid; rw [HF.out, if_neg p1, if_pos p11, if_neg q48]
      clear HF p1 p11
      go_enter Tryd.func70, Tryd.ntmps70
      go_wp2_with (first | (go_at_call 44; refine H68.out.mono ?_; rintro e w1 ⟨rfl, rfl⟩) | (go_at_call 45; refine H69.out.mono ?_; rintro e w2 ⟨rfl, hb2⟩) | (go_at_call 72; refine H81.out.mono ?_; rintro e w3 ⟨rfl, rfl⟩))
      go_ret
      exact ⟨by rw [HF'.out]; rfl, by first | exact hb2 | exact Below.refl _ _⟩
    · have ip11 : ((F : Int) == 11) = false := by first | omega | (simp; omega) | simpa using p11
      by_cases p13 : F = 13
      · have ip13 : ((F : Int) == 13) = true := by first | omega | (simp; omega) | simpa using p13
        have q48 : ¬ (49 : Nat) = 48 := by decide
        by_cases pc : ck = false
        · have ipc : ck = false := by first | omega | (simp; omega) | simpa using pc
          have HF' : Hid (L = 5) := by unfold Hid; rw [HF.out, if_neg p1, if_neg p11, if_pos p13, if_neg q48, if_pos pc]
          clear HF p1 p11 p13 pc
          go_enter Tryd.func70, Tryd.ntmps70
          go_wp2_with (first | (go_at_call 44; refine H68.out.mono ?_; rintro e w1 ⟨rfl, rfl⟩) | (go_at_call 45; refine H69.out.mono ?_; rintro e w2 ⟨rfl, hb2⟩) | (go_at_call 72; refine H81.out.mono ?_; rintro e w3 ⟨rfl, rfl⟩))
          go_ret
          exact ⟨by rw [HF'.out]; rfl, by first | exact hb2 | exact Below.refl _ _⟩
        · have ipc : ck = true := by first | omega | (simp; omega) | simpa using pc
          have HF' : Hid (L = 0) := by unfold Hid; rw [HF.out, if_neg p1, if_neg p11, if_pos p13, if_neg q48, if_neg pc]
          clear HF p1 p11 p13 pc
          go_enter Tryd.func70, Tryd.ntmps70
          go_wp2_with (first | (go_at_call 44; refine H68.out.mono ?_; rintro e w1 ⟨rfl, rfl⟩) | (go_at_call 45; refine H69.out.mono ?_; rintro e w2 ⟨rfl, hb2⟩) | (go_at_call 72; refine H81.out.mono ?_; rintro e w3 ⟨rfl, rfl⟩))
          go_ret
          exact ⟨by rw [HF'.out]; rfl, by first | exact hb2 | exact Below.refl _ _⟩
      · have ip13 : ((F : Int) == 13) = false := by first | omega | (simp; omega) | simpa using p13
        by_cases p14 : F = 14
        · have ip14 : ((F : Int) == 14) = true := by first | omega | (simp; omega) | simpa using p14
          by_cases pk6 : n < E + 24
          · have ipk6 : (n : Int) - (E : Int) - 18 < 6 := by first | omega | (simp; omega) | simpa using pk6
            have q48 : ¬ (49 : Nat) = 48 := by decide
            by_cases pk5 : n = E + 23
            · have ipk5 : (((n : Int) - (E : Int) - 18) == 5) = true := by first | omega | (simp; omega) | simpa using pk5
              have HF' : Hid (L = 1) := by unfold Hid; rw [HF.out, if_neg p1, if_neg p11, if_neg p13, if_pos p14, if_pos pk6, if_neg q48, if_pos pk5]
              clear HF p1 p11 p13 p14 pk6 pk5
              go_enter Tryd.func70, Tryd.ntmps70
              go_wp2_with (first | (go_at_call 44; refine H68.out.mono ?_; rintro e w1 ⟨rfl, rfl⟩) | (go_at_call 45; refine H69.out.mono ?_; rintro e w2 ⟨rfl, hb2⟩) | (go_at_call 72; refine H81.out.mono ?_; rintro e w3 ⟨rfl, rfl⟩))
              go_ret
              exact ⟨by rw [HF'.out]; rfl, by first | exact hb2 | exact Below.refl _ _⟩
            · have ipk5 : (((n : Int) - (E : Int) - 18) == 5) = false := by first | omega | (simp; omega) | simpa using pk5
              have HF' : Hid (L = 0) := by unfold Hid; rw [HF.out, if_neg p1, if_neg p11, if_neg p13, if_pos p14, if_pos pk6, if_neg q48, if_neg pk5]
              clear HF p1 p11 p13 p14 pk6 pk5
              go_enter Tryd.func70, Tryd.ntmps70
              go_wp2_with (first | (go_at_call 44; refine H68.out.mono ?_; rintro e w1 ⟨rfl, rfl⟩) | (go_at_call 45; refine H69.out.mono ?_; rintro e w2 ⟨rfl, hb2⟩) | (go_at_call 72; refine H81.out.mono ?_; rintro e w3 ⟨rfl, rfl⟩))
              go_ret
              exact ⟨by rw [HF'.out]; rfl, by first | exact hb2 | exact Below.refl _ _⟩
          · have ipk6 : ¬ (n : Int) - (E : Int) - 18 < 6 := by first | omega | (simp; omega) | simpa using pk6
            by_cases pk7 : n = E + 24
            · have ipk7 : (((n : Int) - (E : Int) - 18) == 6) = true := by first | omega | (simp; omega) | simpa using pk7
              have q48 : ¬ (49 : Nat) = 48 := by decide
              have HF' : Hid (L = 2) := by unfold Hid; rw [HF.out, if_neg p1, if_neg p11, if_neg p13, if_pos p14, if_neg pk6, if_pos pk7, if_neg q48]
              clear HF p1 p11 p13 p14 pk6 pk7
              go_enter Tryd.func70, Tryd.ntmps70
              go_wp2_with (first | (go_at_call 44; refine H68.out.mono ?_; rintro e w1 ⟨rfl, rfl⟩) | (go_at_call 45; refine H69.out.mono ?_; rintro e w2 ⟨rfl, hb2⟩) | (go_at_call 72; refine H81.out.mono ?_; rintro e w3 ⟨rfl, rfl⟩))
              go_ret
              exact ⟨by rw [HF'.out]; rfl, by first | exact hb2 | exact Below.refl _ _⟩
            · have ipk7 : (((n : Int) - (E : Int) - 18) == 6) = false := by first | omega | (simp; omega) | simpa using pk7
              have HF' : Hid (L = 0) := by unfold Hid; rw [HF.out, if_neg p1, if_neg p11, if_neg p13, if_pos p14, if_neg pk6, if_neg pk7]
              clear HF p1 p11 p13 p14 pk6 pk7
              go_enter Tryd.func70, Tryd.ntmps70
              go_wp2_with (first | (go_at_call 44; refine H68.out.mono ?_; rintro e w1 ⟨rfl, rfl⟩) | (go_at_call 45; refine H69.out.mono ?_; rintro e w2 ⟨rfl, hb2⟩) | (go_at_call 72; refine H81.out.mono ?_; rintro e w3 ⟨rfl, rfl⟩))
              go_ret
              exact ⟨by rw [HF'.out]; rfl, by first | exact hb2 | exact Below.refl _ _⟩
        · have ip14 : ((F : Int) == 14) = false := by first | omega | (simp; omega) | simpa using p14
          have HF' : Hid (L = 0) := by unfold Hid; rw [HF.out, if_neg p1, if_neg p11, if_neg p13, if_neg p14]
          clear HF p1 p11 p13 p14
          go_enter Tryd.func70, Tryd.ntmps70
          go_wp2_with (first | (go_at_call 44; refine H68.out.mono ?_; rintro e w1 ⟨rfl, rfl⟩) | (go_at_call 45; refine H69.out.mono ?_; rintro e w2 ⟨rfl, hb2⟩) | (go_at_call 72; refine H81.out.mono ?_; rintro e w3 ⟨rfl, rfl⟩))
          go_ret
          exact ⟨by rw [HF'.out]; rfl, by first | exact hb2 | exact Below.refl _ _⟩
theorem l1look_any (w : World) (a : Option Addr) (n cap : Nat) (l : List Nat) (c : Nat) (hc : M.isL c) (h : isBytes w a n cap l) (hn : l.length ≤ 100000) :
    Calls Tryd.prog 70 #[.slice a n cap, .int .u8 (c : Int)] w fun e w' => e = .returned (.int .i64 (lookL l c : Nat)) ∧ Below w.heap.size w w' := by
  rcases hc with rfl | rfl
  · exact l1look_48 w a n cap l h hn
  · exact l1look_49 w a n cap l h hn
theorem gb_trans {w w1 w2 : World} {b : Option Nat} (h : w.grownBy w1 b) (k : w1.grownBy w2 b) : w.grownBy w2 b :=
  ⟨k.os.trans h.os, k.tape.trans h.tape, k.output.trans h.output, Nat.le_trans h.size k.size, fun i hi hne => (k.block i (Nat.lt_of_lt_of_le hi h.size) hne).trans (h.block i hi hne)⟩
theorem gb_below {w w1 w2 : World} {b : Option Nat} (h : w.grownBy w1 b) (k : Below w.heap.size w1 w2) : w.grownBy w2 b :=
  ⟨k.os.trans h.os, k.tape.trans h.tape, k.output.trans h.output, Nat.le_trans h.size k.size, fun i hi hne => (k.block i hi).trans (h.block i hi hne)⟩
theorem ownsB.gb {w w1 : World} {B : Nat} {v : Value} {l : List Nat} {b : Nat} (h : ownsB w B v l) (hg : w.grownBy w1 (some b)) (hb : b < B) : ownsB w1 B v l :=
  h.otherBlock (fun g hgv => hg.block g ((World.ownsRow.lt h g hgv).2) (fun e => by cases e; have := (World.ownsRow.lt h _ hgv).1; omega))
theorem ownsB.shape {w : World} {B : Nat} {v : Value} {l : List Nat} (h : ownsB w B v l) : ∃ ao cap, v = .slice ao l.length cap := by
  obtain ⟨_, ⟨rfl, h1⟩ | ⟨g, cap, cur, rfl, _⟩⟩ := h
  · exact ⟨none, 0, by rw [h1]⟩
  · exact ⟨_, cap, rfl⟩
theorem srcAt.below {w w1 : World} {B b : Nat} {a : Option Addr} {n cap i s : Nat} (h : srcAt w b a n cap i s) (hb : Below B w w1) (hB : b < B) : srcAt w1 b a n cap i s := (hb.block b hB).trans h
theorem srcAt.lt {w : World} {b : Nat} {a : Option Addr} {n cap i s : Nat} (h : srcAt w b a n cap i s) : b < w.heap.size := lt_of_block h
/-- the length that a slice's value bears -/
def lenOf : Value → Nat | .slice _ n _ => n | _ => 0
/-- the source of choices, and what it reads -/
structure srcI (w0 : World) (b : Nat) (a : Option Addr) (n cap : Nat) (l : List Nat) (i : Nat) (w : World) : Prop where
  at_ : ∃ s, srcAt w b a n cap i s
  bel : Below w0.heap.size w0 w
  by_ : isBytes w0 a n cap l
  hb : w0.heap.size ≤ b
theorem srcI.lt {w0 w : World} {b : Nat} {a : Option Addr} {n cap i : Nat} {l : List Nat} (h : srcI w0 b a n cap l i w) : b < w.heap.size := by
  obtain ⟨s, hs⟩ := h.at_; exact hs.lt
theorem srcI.step {w0 w w1 : World} {b : Nat} {a : Option Addr} {n cap i i' : Nat} {l : List Nat} (h : srcI w0 b a n cap l i w) (hs : ∃ s', srcAt w1 b a n cap i' s') (hg : w.grownBy w1 (some b)) : srcI w0 b a n cap l i' w1 :=
  ⟨hs, h.bel.grown hg h.bel.size (fun k e => by cases e; exact h.hb), h.by_, h.hb⟩
theorem srcI.below {w0 w w1 : World} {B b : Nat} {a : Option Addr} {n cap i : Nat} {l : List Nat} (h : srcI w0 b a n cap l i w) (hb : Below B w w1) (hB : b < B) : srcI w0 b a n cap l i w1 := by
  obtain ⟨s, hs⟩ := h.at_
  exact ⟨⟨s, hs.below hb hB⟩, h.bel.trans (hb.mono (by have := h.hb; omega)), h.by_, h.hb⟩
theorem n_any (w0 w : World) (b : Nat) (a : Option Addr) (n cap i : Nat) (l : List Nat) (k : Nat) (h : srcI w0 b a n cap l i w) (hi : i ≤ 1000000000000) (hk : k ≤ 1000000000) :
    Calls Tryd.prog 36 #[.pointer (some ⟨b, 0, none⟩), .int .i64 (k : Int)] w fun o w' => ∃ r : Nat, o = .returned (.int .i64 (r : Int)) ∧ (k ≤ 1 → r = 0) ∧ (1 < k → r < k) ∧ srcI w0 b a n cap l (i + 1) w' ∧ w.grownBy w' (some b) := by
  obtain ⟨s, hs⟩ := h.at_
  refine (srcN_any w b a n cap i s l k hs (h.by_.below h.bel) hi hk).mono ?_
  rintro o w' ⟨r, s', rfl, h1, h2, h3, h4⟩
  exact ⟨r, rfl, h1, h2, h.step ⟨s', h3⟩ h4, h4⟩
theorem n_2 (w0 w : World) (b : Nat) (a : Option Addr) (n cap i : Nat) (l : List Nat) (h : srcI w0 b a n cap l i w) (hi : i ≤ 1000000000000) :
    Calls Tryd.prog 36 #[.pointer (some ⟨b, 0, none⟩), .int .i64 2] w fun o w' => ∃ r : Nat, o = .returned (.int .i64 (r : Int)) ∧ r < 2 ∧ srcI w0 b a n cap l (i + 1) w' ∧ w.grownBy w' (some b) := by
  refine (n_any w0 w b a n cap i l 2 h hi (by omega)).mono ?_
  rintro o w' ⟨r, rfl, _, h2, h3, h4⟩
  exact ⟨r, rfl, h2 (by omega), h3, h4⟩
theorem n_3 (w0 w : World) (b : Nat) (a : Option Addr) (n cap i : Nat) (l : List Nat) (h : srcI w0 b a n cap l i w) (hi : i ≤ 1000000000000) :
    Calls Tryd.prog 36 #[.pointer (some ⟨b, 0, none⟩), .int .i64 3] w fun o w' => ∃ r : Nat, o = .returned (.int .i64 (r : Int)) ∧ r < 3 ∧ srcI w0 b a n cap l (i + 1) w' ∧ w.grownBy w' (some b) := by
  refine (n_any w0 w b a n cap i l 3 h hi (by omega)).mono ?_
  rintro o w' ⟨r, rfl, _, h2, h3, h4⟩
  exact ⟨r, rfl, h2 (by omega), h3, h4⟩
theorem n_7 (w0 w : World) (b : Nat) (a : Option Addr) (n cap i : Nat) (l : List Nat) (h : srcI w0 b a n cap l i w) (hi : i ≤ 1000000000000) :
    Calls Tryd.prog 36 #[.pointer (some ⟨b, 0, none⟩), .int .i64 7] w fun o w' => ∃ r : Nat, o = .returned (.int .i64 (r : Int)) ∧ r < 7 ∧ srcI w0 b a n cap l (i + 1) w' ∧ w.grownBy w' (some b) := by
  refine (n_any w0 w b a n cap i l 7 h hi (by omega)).mono ?_
  rintro o w' ⟨r, rfl, _, h2, h3, h4⟩
  exact ⟨r, rfl, h2 (by omega), h3, h4⟩
end Go.Proofs.YtjmlalojfghkiaaDoor.J
