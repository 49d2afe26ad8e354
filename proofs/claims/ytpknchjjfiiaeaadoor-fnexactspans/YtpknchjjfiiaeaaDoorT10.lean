import Derived.Test.YtpknchjjfiiaeaaDoorT09
namespace Go.Proofs.YtpknchjjfiiaeaaDoor.J
open Go.RowKit
theorem l1lay_any (w : World) (a : Option Addr) (n cap : Nat) (l : List Nat) (h : isBytes w a n cap l) (hn : l.length ≤ 100000) :
    Calls Tryd.prog 62 #[.slice a n cap] w fun e w' => e = .returned (.tuple #[.int .i64 ((layL l).1 : Nat), .int .i64 ((layL l).2 : Nat)]) ∧ w = w' := by
  by_cases h14 : l.length < 14
  · have hlen := h.len
    subst hlen
    have h14' : (l.length : Int) < 14 := by omega
    have HL : Hid (layL l = (0, 0)) := by unfold Hid layL; rw [if_pos h14]
    clear h hn h14
    generalize l.length = n at *
    go_enter Tryd.func62, Tryd.ntmps62
    go_wp2
    go_ret2
    exact ⟨by rw [HL.out]; rfl, rfl⟩
  · obtain ⟨g, off, rfl, -⟩ := h.cells (by intro e; rw [e] at h14; simp at h14)
    by_cases h13 : l.getD 13 0 = 49
    · exact l1lay_39 w g off n cap l h hn h14 (by unfold layH; rw [if_pos h13])
    · exact l1lay_19 w g off n cap l h hn h14 (by unfold layH; rw [if_neg h13])
/-- the field of the plain letter behind these -/
def fieldL (l : List Nat) : Nat :=
  if l.length = 0 then 1 else if l.length < 12 then 2 else if l.length = 12 then 3 else if l.length = 13 then 4
  else if l.length < (layL l).1 then
    (if (layL l).1 ≤ l.length + 4 then 8 else if (layL l).1 = 19 then 7 else if l.length < 32 then 5 else if l.length = 32 then 6 else 7)
  else if l.length < (layL l).2 then 9 else if l.length < (layL l).2 + 15 then 10 else if l.length < (layL l).2 + 18 then l.length - (layL l).2 - 4
  else if l.length < (layL l).2 + 25 then 14 else 15
theorem layL_le (l : List Nat) : (layL l).1 ≤ 39 ∧ (layL l).2 ≤ 103 := by
  have : layH l ≤ 39 := by unfold layH; split <;> omega
  have h2 : layN l ≤ 8 := by unfold layN; split <;> omega
  unfold layL
  split
  · exact ⟨by simp, by simp⟩
  · split
    · exact ⟨this, by simp⟩
    · exact ⟨this, by show _ + _ ≤ _; omega⟩
theorem ret_i64 {a b : Int} (h : a = b) : Ending.returned (.int .i64 a) = .returned (.int .i64 b) := by rw [h]
set_option maxHeartbeats 6000000 in
set_option maxRecDepth 20000 in
theorem l1field_any (w : World) (a : Option Addr) (n cap : Nat) (l : List Nat) (h : isBytes w a n cap l) (hn : l.length ≤ 100000) :
    Calls Tryd.prog 45 #[.slice a n cap] w fun e w' => e = .returned (.int .i64 (fieldL l : Nat)) ∧ w = w' := by
  have HC : Hid (Calls Tryd.prog 62 #[.slice a n cap] w fun e w' => e = .returned (.tuple #[.int .i64 ((layL l).1 : Nat), .int .i64 ((layL l).2 : Nat)]) ∧ w = w') := l1lay_any w a n cap l h hn
  have hlen := h.len
  subst hlen
  obtain ⟨hh1, hh2⟩ := layL_le l
  have HF : Hid (fieldL l = _) := (show fieldL l = _ from by unfold fieldL; rfl)
  clear h
  generalize (layL l).1 = H at *
  generalize (layL l).2 = E at *
  generalize fieldL l = F at *
  generalize l.length = n at *
  by_cases p0 : n = 0
  · have ip0 : ((n : Int) == 0) = true := by first | omega | (simp; omega)
    have HF' : Hid (F = 1) := by unfold Hid; rw [HF.out, if_pos p0]
    clear HF p0
    go_enter Tryd.func45, Tryd.ntmps45
    go_wp2_with (go_at_call 62; refine HC.out.mono ?_; rintro e w1 ⟨rfl, rfl⟩)
    go_ret
    exact ⟨by rw [HF'.out]; rfl, rfl⟩
  · have ip0 : ((n : Int) == 0) = false := by first | omega | (simp; omega)
    by_cases p1 : n < 12
    · have ip1 : (n : Int) < 12 := by first | omega | (simp; omega)
      have HF' : Hid (F = 2) := by unfold Hid; rw [HF.out, if_neg p0, if_pos p1]
      clear HF p0 p1
      go_enter Tryd.func45, Tryd.ntmps45
      go_wp2_with (go_at_call 62; refine HC.out.mono ?_; rintro e w1 ⟨rfl, rfl⟩)
      go_ret
      exact ⟨by rw [HF'.out]; rfl, rfl⟩
    · have ip1 : ¬ (n : Int) < 12 := by first | omega | (simp; omega)
      by_cases p2 : n = 12
      · have ip2 : ((n : Int) == 12) = true := by first | omega | (simp; omega)
        have HF' : Hid (F = 3) := by unfold Hid; rw [HF.out, if_neg p0, if_neg p1, if_pos p2]
        clear HF p0 p1 p2
        go_enter Tryd.func45, Tryd.ntmps45
        go_wp2_with (go_at_call 62; refine HC.out.mono ?_; rintro e w1 ⟨rfl, rfl⟩)
        go_ret
        exact ⟨by rw [HF'.out]; rfl, rfl⟩
      · have ip2 : ((n : Int) == 12) = false := by first | omega | (simp; omega)
        by_cases p3 : n = 13
        · have ip3 : ((n : Int) == 13) = true := by first | omega | (simp; omega)
          have HF' : Hid (F = 4) := by unfold Hid; rw [HF.out, if_neg p0, if_neg p1, if_neg p2, if_pos p3]
          clear HF p0 p1 p2 p3
          go_enter Tryd.func45, Tryd.ntmps45
          go_wp2_with (go_at_call 62; refine HC.out.mono ?_; rintro e w1 ⟨rfl, rfl⟩)
          go_ret
          exact ⟨by rw [HF'.out]; rfl, rfl⟩
        · have ip3 : ((n : Int) == 13) = false := by first | omega | (simp; omega)
          by_cases p4 : n < H
          · have ip4 : (n : Int) < (H : Int) := by first | omega | (simp; omega)
            by_cases p5 : H ≤ n + 4
            · have ip5 : (n : Int) ≥ (H : Int) - 4 := by first | omega | (simp; omega)
              have HF' : Hid (F = 8) := by unfold Hid; rw [HF.out, if_neg p0, if_neg p1, if_neg p2, if_neg p3, if_pos p4, if_pos p5]
              clear HF p0 p1 p2 p3 p4 p5
              go_enter Tryd.func45, Tryd.ntmps45
              go_wp2_with (go_at_call 62; refine HC.out.mono ?_; rintro e w1 ⟨rfl, rfl⟩)
              go_ret
              exact ⟨by rw [HF'.out]; rfl, rfl⟩
            · have ip5 : ¬ (n : Int) ≥ (H : Int) - 4 := by first | omega | (simp; omega)
              by_cases p6 : H = 19
              · have ip6 : ((H : Int) == 19) = true := by first | omega | (simp; omega)
                have HF' : Hid (F = 7) := by unfold Hid; rw [HF.out, if_neg p0, if_neg p1, if_neg p2, if_neg p3, if_pos p4, if_neg p5, if_pos p6]
                clear HF p0 p1 p2 p3 p4 p5 p6
                go_enter Tryd.func45, Tryd.ntmps45
                go_wp2_with (go_at_call 62; refine HC.out.mono ?_; rintro e w1 ⟨rfl, rfl⟩)
                go_ret
                exact ⟨by rw [HF'.out]; rfl, rfl⟩
              · have ip6 : ((H : Int) == 19) = false := by first | omega | (simp; omega)
                by_cases p7 : n < 32
                · have ip7 : (n : Int) < 32 := by first | omega | (simp; omega)
                  have HF' : Hid (F = 5) := by unfold Hid; rw [HF.out, if_neg p0, if_neg p1, if_neg p2, if_neg p3, if_pos p4, if_neg p5, if_neg p6, if_pos p7]
                  clear HF p0 p1 p2 p3 p4 p5 p6 p7
                  go_enter Tryd.func45, Tryd.ntmps45
                  go_wp2_with (go_at_call 62; refine HC.out.mono ?_; rintro e w1 ⟨rfl, rfl⟩)
                  go_ret
                  exact ⟨by rw [HF'.out]; rfl, rfl⟩
                · have ip7 : ¬ (n : Int) < 32 := by first | omega | (simp; omega)
                  by_cases p8 : n = 32
                  · have ip8 : ((n : Int) == 32) = true := by first | omega | (simp; omega)
                    have HF' : Hid (F = 6) := by unfold Hid; rw [HF.out, if_neg p0, if_neg p1, if_neg p2, if_neg p3, if_pos p4, if_neg p5, if_neg p6, if_neg p7, if_pos p8]
                    clear HF p0 p1 p2 p3 p4 p5 p6 p7 p8
                    go_enter Tryd.func45, Tryd.ntmps45
                    go_wp2_with (go_at_call 62; refine HC.out.mono ?_; rintro e w1 ⟨rfl, rfl⟩)
                    go_ret
                    exact ⟨by rw [HF'.out]; rfl, rfl⟩
                  · have ip8 : ((n : Int) == 32) = false := by first | omega | (simp; omega)
                    have HF' : Hid (F = 7) := by unfold Hid; rw [HF.out, if_neg p0, if_neg p1, if_neg p2, if_neg p3, if_pos p4, if_neg p5, if_neg p6, if_neg p7, if_neg p8]
                    clear HF p0 p1 p2 p3 p4 p5 p6 p7 p8
                    go_enter Tryd.func45, Tryd.ntmps45
                    go_wp2_with (go_at_call 62; refine HC.out.mono ?_; rintro e w1 ⟨rfl, rfl⟩)
                    go_ret
                    exact ⟨by rw [HF'.out]; rfl, rfl⟩
          · have ip4 : ¬ (n : Int) < (H : Int) := by first | omega | (simp; omega)
            by_cases p9 : n < E
            · have ip9 : (n : Int) < (E : Int) := by first | omega | (simp; omega)
              have HF' : Hid (F = 9) := by unfold Hid; rw [HF.out, if_neg p0, if_neg p1, if_neg p2, if_neg p3, if_neg p4, if_pos p9]
              clear HF p0 p1 p2 p3 p4 p9
              go_enter Tryd.func45, Tryd.ntmps45
              go_wp2_with (go_at_call 62; refine HC.out.mono ?_; rintro e w1 ⟨rfl, rfl⟩)
              go_ret
              exact ⟨by rw [HF'.out]; rfl, rfl⟩
            · have ip9 : ¬ (n : Int) < (E : Int) := by first | omega | (simp; omega)
              by_cases p10 : n < E + 15
              · have ip10 : (n : Int) < (E : Int) + 15 := by first | omega | (simp; omega)
                have HF' : Hid (F = 10) := by unfold Hid; rw [HF.out, if_neg p0, if_neg p1, if_neg p2, if_neg p3, if_neg p4, if_neg p9, if_pos p10]
                clear HF p0 p1 p2 p3 p4 p9 p10
                go_enter Tryd.func45, Tryd.ntmps45
                go_wp2_with (go_at_call 62; refine HC.out.mono ?_; rintro e w1 ⟨rfl, rfl⟩)
                go_ret
                exact ⟨by rw [HF'.out]; rfl, rfl⟩
              · have ip10 : ¬ (n : Int) < (E : Int) + 15 := by first | omega | (simp; omega)
                by_cases p11 : n < E + 18
                · have ip11 : (n : Int) < (E : Int) + 18 := by first | omega | (simp; omega)
                  have HF' : Hid (F = n - E - 4) := by unfold Hid; rw [HF.out, if_neg p0, if_neg p1, if_neg p2, if_neg p3, if_neg p4, if_neg p9, if_neg p10, if_pos p11]
                  clear HF p0 p1 p2 p3 p4 p9 p10 p11
                  go_enter Tryd.func45, Tryd.ntmps45
                  go_wp2_with (go_at_call 62; refine HC.out.mono ?_; rintro e w1 ⟨rfl, rfl⟩)
                  go_ret
                  exact ⟨by rw [HF'.out]; exact ret_i64 (by omega), rfl⟩
                · have ip11 : ¬ (n : Int) < (E : Int) + 18 := by first | omega | (simp; omega)
                  by_cases p12 : n < E + 25
                  · have ip12 : (n : Int) < (E : Int) + 25 := by first | omega | (simp; omega)
                    have HF' : Hid (F = 14) := by unfold Hid; rw [HF.out, if_neg p0, if_neg p1, if_neg p2, if_neg p3, if_neg p4, if_neg p9, if_neg p10, if_neg p11, if_pos p12]
                    clear HF p0 p1 p2 p3 p4 p9 p10 p11 p12
                    go_enter Tryd.func45, Tryd.ntmps45
                    go_wp2_with (go_at_call 62; refine HC.out.mono ?_; rintro e w1 ⟨rfl, rfl⟩)
                    go_ret
                    exact ⟨by rw [HF'.out]; rfl, rfl⟩
                  · have ip12 : ¬ (n : Int) < (E : Int) + 25 := by first | omega | (simp; omega)
                    have HF' : Hid (F = 15) := by unfold Hid; rw [HF.out, if_neg p0, if_neg p1, if_neg p2, if_neg p3, if_neg p4, if_neg p9, if_neg p10, if_neg p11, if_neg p12]
                    clear HF p0 p1 p2 p3 p4 p9 p10 p11 p12
                    go_enter Tryd.func45, Tryd.ntmps45
                    go_wp2_with (go_at_call 62; refine HC.out.mono ?_; rintro e w1 ⟨rfl, rfl⟩)
                    go_ret
                    exact ⟨by rw [HF'.out]; rfl, rfl⟩
/-- the fifteen letters behind place e are the sum of those ahead of it -/
def crcOkL (l : List Nat) : Bool := decide (¬ ((layL l).2 = 0 ∨ l.length < (layL l).2 + 15)) && decide (crcZ (strN (l.take (layL l).2)) = (valL ((l.drop (layL l).2).take 15) : Nat))
theorem ck_S {w V V' : World} {g off E cap : Nat} {t1 t2 : ByteArray} {l1 l2 : List Nat} (e1 : strN l1 = t1) (e2 : strN l2 = t2) (h : (convert 23 9 (.slice (some ⟨g, off, none⟩) E cap)).run Tryd.prog V = .ok (.string t1) V ∧ (convert 23 9 (.slice (some ⟨g, off + E, none⟩) 15 (cap - E))).run Tryd.prog V = .ok (.string t2) V ∧ isBytes V (some ⟨g, off, none⟩) E cap l1 ∧ isBytes V (some ⟨g, off + E, none⟩) 15 (cap - E) l2 ∧ Below w.heap.size w V) (hb : Below V.heap.size V V') (hz : w.heap.size ≤ V.heap.size) : (convert 23 9 (.slice (some ⟨g, off, none⟩) E cap)).run Tryd.prog V' = .ok (.string t1) V' ∧ (convert 23 9 (.slice (some ⟨g, off + E, none⟩) 15 (cap - E))).run Tryd.prog V' = .ok (.string t2) V' ∧ isBytes V' (some ⟨g, off, none⟩) E cap l1 ∧ isBytes V' (some ⟨g, off + E, none⟩) 15 (cap - E) l2 ∧ Below w.heap.size w V' := by
  obtain ⟨-, -, b1, b2, b3⟩ := h
  have b1' := b1.below hb
  have b2' := b2.below hb
  subst e1 e2
  exact ⟨convB b1', convB b2', b1', b2', b3.trans (hb.mono hz)⟩
theorem ck_be {w V : World} {g off E cap : Nat} {t1 t2 : ByteArray} {l1 l2 : List Nat} (h : (convert 23 9 (.slice (some ⟨g, off, none⟩) E cap)).run Tryd.prog V = .ok (.string t1) V ∧ (convert 23 9 (.slice (some ⟨g, off + E, none⟩) 15 (cap - E))).run Tryd.prog V = .ok (.string t2) V ∧ isBytes V (some ⟨g, off, none⟩) E cap l1 ∧ isBytes V (some ⟨g, off + E, none⟩) 15 (cap - E) l2 ∧ Below w.heap.size w V) : Below w.heap.size w V := h.2.2.2.2
theorem ck_S0 {w : World} {g off E cap : Nat} {t1 t2 : ByteArray} {l1 l2 : List Nat} (e1 : strN l1 = t1) (e2 : strN l2 = t2) (b1 : isBytes w (some ⟨g, off, none⟩) E cap l1) (b2 : isBytes w (some ⟨g, off + E, none⟩) 15 (cap - E) l2) : (convert 23 9 (.slice (some ⟨g, off, none⟩) E cap)).run Tryd.prog w.drew = .ok (.string t1) w.drew ∧ (convert 23 9 (.slice (some ⟨g, off + E, none⟩) 15 (cap - E))).run Tryd.prog w.drew = .ok (.string t2) w.drew ∧ isBytes w.drew (some ⟨g, off, none⟩) E cap l1 ∧ isBytes w.drew (some ⟨g, off + E, none⟩) 15 (cap - E) l2 ∧ Below w.heap.size w w.drew := by
  have b1' : isBytes w.drew (some ⟨g, off, none⟩) E cap l1 := b1.below (Below.refl _ _).drew
  have b2' : isBytes w.drew (some ⟨g, off + E, none⟩) 15 (cap - E) l2 := b2.below (Below.refl _ _).drew
  subst e1 e2
  exact ⟨convB b1', convB b2', b1', b2', (Below.refl _ _).drew⟩
theorem wrap15 (E : Nat) (h : E ≤ 103) : IntKind.i64.wrap ((E : Int) + 15) = (E : Int) + 15 := by
  simp [IntKind.wrap, IntKind.bits, IntKind.signed]
  omega
theorem l1val15 (w : World) {l : List Nat} (h : ∀ x ∈ l, x < 256) (hl : l.length ≤ 15) : Calls Tryd.prog 63 #[.string (strN l)] w fun e w' => e = .returned (.int .i64 (valL l : Nat)) ∧ w = w' := by
  have hz : (strN l).size ≤ 40 := by rw [strN_size]; omega
  have := l1val_any (strN l) w hz
  rw [lt_strN _ h] at this
  exact this
set_option maxHeartbeats 4000000 in
set_option maxRecDepth 20000 in
theorem l1crcOk_any (w : World) (a : Option Addr) (n cap : Nat) (l : List Nat) (h : isBytes w a n cap l) (hn : l.length ≤ 100000) :
    Calls Tryd.prog 46 #[.slice a n cap] w fun e w' => e = .returned (.bool (crcOkL l)) ∧ Below w.heap.size w w' := by
  have HC : Hid (Calls Tryd.prog 62 #[.slice a n cap] w fun e w' => e = .returned (.tuple #[.int .i64 ((layL l).1 : Nat), .int .i64 ((layL l).2 : Nat)]) ∧ w = w') := l1lay_any w a n cap l h hn
  have hlen := h.len
  have hcap := h.cap
  subst hlen
  obtain ⟨hh1, hh2⟩ := layL_le l
  by_cases h0 : (layL l).2 = 0
  · have HF : Hid (crcOkL l = false) := by unfold Hid crcOkL; rw [decide_eq_false (by simp [h0])]; rfl
    have h0' : (((layL l).2 : Int) == 0) = true := by simp; omega
    clear h h0
    generalize (layL l).1 = H at *
    generalize (layL l).2 = E at *
    generalize l.length = n at *
    go_enter Tryd.func46, Tryd.ntmps46
    go_wp2_with (go_at_call 62; refine HC.out.mono ?_; rintro e w1 ⟨rfl, rfl⟩)
    go_ret
    exact ⟨ret_bool HF.out.symm, Below.refl _ _⟩
  · have h0' : (((layL l).2 : Int) == 0) = false := by simp; omega
    by_cases h15 : l.length < (layL l).2 + 15
    · have HF : Hid (crcOkL l = false) := by unfold Hid crcOkL; rw [decide_eq_false (by simp [h15])]; rfl
      have h15' : (l.length : Int) < ((layL l).2 : Int) + 15 := by omega
      clear h h0 h15
      generalize (layL l).1 = H at *
      generalize (layL l).2 = E at *
      generalize l.length = n at *
      go_enter Tryd.func46, Tryd.ntmps46
      go_wp2_with (go_at_call 62; refine HC.out.mono ?_; rintro e w1 ⟨rfl, rfl⟩)
      go_ret
      exact ⟨ret_bool HF.out.symm, Below.refl _ _⟩
    · have h15' : ¬ (l.length : Int) < ((layL l).2 : Int) + 15 := by omega
      obtain ⟨g, off, rfl, -⟩ := h.cells (by intro e; rw [e] at h15; simp at h15)
      have b1 : isBytes w (some ⟨g, off, none⟩) (layL l).2 cap (l.take (layL l).2) := by
        have := h.sub 0 (layL l).2 cap (by omega) (by omega) (by omega)
        rwa [List.drop_zero, Nat.add_zero] at this
      have b2 := h.sub (layL l).2 15 (cap - (layL l).2) (by omega) (by decide) (by omega)
      have HF : Hid (crcOkL l = decide (crcZ (strN (l.take (layL l).2)) = (valL ((l.drop (layL l).2).take 15) : Nat))) := by unfold Hid crcOkL; rw [decide_eq_true (p := ¬ _) (by omega)]; simp
      have HV : Hid (∀ w, Calls Tryd.prog 63 #[.string (strN ((l.drop (layL l).2).take 15))] w fun e w' => e = .returned (.int .i64 (valL ((l.drop (layL l).2).take 15) : Nat)) ∧ w = w') := fun w => l1val15 w b2.small (by rw [List.length_take]; omega)
      have hz1 : (strN (l.take (layL l).2)).size ≤ maxLen := by rw [strN_size, List.length_take]; unfold maxLen; omega
      have HK : Hid (∀ w, Calls Tryd.prog 38 #[.string (strN (l.take (layL l).2))] w fun e w' => e = .returned (.int .i64 (crcZ (strN (l.take (layL l).2)))) ∧ Below w.heap.size w w') := fun w => specCrc_any _ w hz1
      clear h h0 h15 hz1
      generalize (layL l).1 = H at *
      generalize (layL l).2 = E at *
      generalize l.take E = l1 at *
      generalize (l.drop E).take 15 = l2 at *
      generalize e1 : strN l1 = t1 at *
      generalize e2 : strN l2 = t2 at *
      generalize l.length = n at *
      generalize valL l2 = v2 at *
      generalize crcZ t1 = z1 at *
      have hS0 := ck_S0 e1 e2 b1 b2
      have k1 : (0 : Int) ≤ (E : Int) := by omega
      have k2 : (E : Int) ≤ (cap : Int) := by omega
      have k3 : (E : Int) + 15 ≤ (cap : Int) := by omega
      have k4 : (E : Int) ≤ (E : Int) + 15 := by omega
      have k5 : (0 : Int) ≤ (E : Int) + 15 := by omega
      have k6 : ¬ cap = E := by omega
      have k10 : ¬ cap - E = 0 := by omega
      have k11 : IntKind.i64.wrap ((E : Int) + 15) = (E : Int) + 15 := wrap15 E hh2
      have k7 : ((E : Int) + 15 - (E : Int)).toNat = 15 := by omega
      have k8 : ((E : Int) + 15).toNat = E + 15 := by omega
      have k9 : E + 15 - E = 15 := by omega
      have E12 : Hid (strN l1 = t1 ∧ strN l2 = t2) := ⟨e1, e2⟩
      clear e1 e2
      go_enter Tryd.func46, Tryd.ntmps46
      go_wp2_with (go_at_call 62; refine HC.out.mono ?_; rintro e w1 ⟨rfl, rfl⟩)
      go_region_held3 (fun V => (convert 23 9 (.slice (some ⟨g, off, none⟩) E cap)).run Tryd.prog V = .ok (.string t1) V ∧ (convert 23 9 (.slice (some ⟨g, off + E, none⟩) 15 (cap - E))).run Tryd.prog V = .ok (.string t2) V ∧ isBytes V (some ⟨g, off, none⟩) E cap l1 ∧ isBytes V (some ⟨g, off + E, none⟩) 15 (cap - E) l2 ∧ Below w.heap.size w V) (first | exact hS0 | assumption | exact ck_S E12.out.1 E12.out.2 (by assumption) (by assumption) (ck_be (by assumption)).size) (first | (go_at_call 38; refine (HK.out _).mono ?_; rintro o w2 ⟨rfl, hb2⟩) | (go_at_call 63; refine (HV.out _).mono ?_; rintro o w3 ⟨rfl, rfl⟩))
      all_goals
        go_wp2
        go_ret
        exact ⟨ret_bool (by rw [HF.out, Bool.eq_iff_iff]; simp), (Below.refl _ _).drew.trans (hb2.mono (by simp))⟩
end Go.Proofs.YtpknchjjfiiaeaaDoor.J
