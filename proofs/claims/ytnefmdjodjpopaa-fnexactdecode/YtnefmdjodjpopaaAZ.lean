import Derived.Test.YtnefmdjodjpopaaAY
namespace Go.Proofs.Ytnefmdjodjpopaa
open Go.RowKit

/-- the fifteen letters behind place e are the sum of those ahead of it -/
def crcOkL (l : List Nat) : Bool := decide (¬ ((layL l).2 = 0 ∨ l.length < (layL l).2 + 15)) && decide (crcZ (strN (l.take (layL l).2)) = (valL ((l.drop (layL l).2).take 15) : Nat))
theorem ck_S {w V V' : World} {g off E cap : Nat} {t1 t2 : ByteArray} {l1 l2 : List Nat} (e1 : strN l1 = t1) (e2 : strN l2 = t2) (h : (convert 28 9 (.slice (some ⟨g, off, none⟩) E cap)).run Try.prog V = .ok (.string t1) V ∧ (convert 28 9 (.slice (some ⟨g, off + E, none⟩) 15 (cap - E))).run Try.prog V = .ok (.string t2) V ∧ isBytes V (some ⟨g, off, none⟩) E cap l1 ∧ isBytes V (some ⟨g, off + E, none⟩) 15 (cap - E) l2 ∧ Below w.heap.size w V) (hb : Below V.heap.size V V') (hz : w.heap.size ≤ V.heap.size) : (convert 28 9 (.slice (some ⟨g, off, none⟩) E cap)).run Try.prog V' = .ok (.string t1) V' ∧ (convert 28 9 (.slice (some ⟨g, off + E, none⟩) 15 (cap - E))).run Try.prog V' = .ok (.string t2) V' ∧ isBytes V' (some ⟨g, off, none⟩) E cap l1 ∧ isBytes V' (some ⟨g, off + E, none⟩) 15 (cap - E) l2 ∧ Below w.heap.size w V' := by
  obtain ⟨-, -, b1, b2, b3⟩ := h
  have b1' := b1.below hb
  have b2' := b2.below hb
  subst e1 e2
  exact ⟨convB b1', convB b2', b1', b2', b3.trans (hb.mono hz)⟩
theorem ck_be {w V : World} {g off E cap : Nat} {t1 t2 : ByteArray} {l1 l2 : List Nat} (h : (convert 28 9 (.slice (some ⟨g, off, none⟩) E cap)).run Try.prog V = .ok (.string t1) V ∧ (convert 28 9 (.slice (some ⟨g, off + E, none⟩) 15 (cap - E))).run Try.prog V = .ok (.string t2) V ∧ isBytes V (some ⟨g, off, none⟩) E cap l1 ∧ isBytes V (some ⟨g, off + E, none⟩) 15 (cap - E) l2 ∧ Below w.heap.size w V) : Below w.heap.size w V := h.2.2.2.2
theorem ck_S0 {w : World} {g off E cap : Nat} {t1 t2 : ByteArray} {l1 l2 : List Nat} (e1 : strN l1 = t1) (e2 : strN l2 = t2) (b1 : isBytes w (some ⟨g, off, none⟩) E cap l1) (b2 : isBytes w (some ⟨g, off + E, none⟩) 15 (cap - E) l2) : (convert 28 9 (.slice (some ⟨g, off, none⟩) E cap)).run Try.prog w.drew = .ok (.string t1) w.drew ∧ (convert 28 9 (.slice (some ⟨g, off + E, none⟩) 15 (cap - E))).run Try.prog w.drew = .ok (.string t2) w.drew ∧ isBytes w.drew (some ⟨g, off, none⟩) E cap l1 ∧ isBytes w.drew (some ⟨g, off + E, none⟩) 15 (cap - E) l2 ∧ Below w.heap.size w w.drew := by
  have b1' : isBytes w.drew (some ⟨g, off, none⟩) E cap l1 := b1.below (Below.refl _ _).drew
  have b2' : isBytes w.drew (some ⟨g, off + E, none⟩) 15 (cap - E) l2 := b2.below (Below.refl _ _).drew
  subst e1 e2
  exact ⟨convB b1', convB b2', b1', b2', (Below.refl _ _).drew⟩
theorem wrap15 (E : Nat) (h : E ≤ 103) : IntKind.i64.wrap ((E : Int) + 15) = (E : Int) + 15 := by
  simp [IntKind.wrap, IntKind.bits, IntKind.signed]
  omega
theorem l1val15 (w : World) {l : List Nat} (h : ∀ x ∈ l, x < 256) (hl : l.length ≤ 15) : Calls Try.prog 82 #[.string (strN l)] w fun e w' => e = .returned (.int .i64 (valL l : Nat)) ∧ w = w' := by
  have hz : (strN l).size ≤ 40 := by rw [strN_size]; omega
  have := l1val_any (strN l) w hz
  rw [lt_strN _ h] at this
  exact this
set_option maxHeartbeats 4000000 in
set_option maxRecDepth 20000 in
theorem l1crcOk_any (w : World) (a : Option Addr) (n cap : Nat) (l : List Nat) (h : isBytes w a n cap l) (hn : l.length ≤ 100000) :
    Calls Try.prog 69 #[.slice a n cap] w fun e w' => e = .returned (.bool (crcOkL l)) ∧ Below w.heap.size w w' := by
  have HC : Hid (Calls Try.prog 81 #[.slice a n cap] w fun e w' => e = .returned (.tuple #[.int .i64 ((layL l).1 : Nat), .int .i64 ((layL l).2 : Nat)]) ∧ w = w') := l1lay_any w a n cap l h hn
  have hlen := h.len
  have hcap := h.cap
  subst hlen
  obtain ⟨hh1, hh2⟩ := layL_le l
  by_cases h0 : (layL l).2 = 0
  · have HF : Hid (crcOkL l = false) := by unfold Hid crcOkL; rw [decide_eq_false (by simp [h0])]; rfl
    have h0' : (((layL l).2 : Int) == 0) = true := by simp; omega
    clear h h0
    generalize (layL l).1 = H at *
    generalize (layL l).2 = E at *
    generalize l.length = n at *
    go_enter Try.func69, Try.ntmps69
    go_wp2_with (go_at_call 81; refine HC.out.mono ?_; rintro e w1 ⟨rfl, rfl⟩)
    go_ret
    exact ⟨ret_bool HF.out.symm, Below.refl _ _⟩
  · have h0' : (((layL l).2 : Int) == 0) = false := by simp; omega
    by_cases h15 : l.length < (layL l).2 + 15
    · have HF : Hid (crcOkL l = false) := by unfold Hid crcOkL; rw [decide_eq_false (by simp [h15])]; rfl
      have h15' : (l.length : Int) < ((layL l).2 : Int) + 15 := by omega
      clear h h0 h15
      generalize (layL l).1 = H at *
      generalize (layL l).2 = E at *
      generalize l.length = n at *
      go_enter Try.func69, Try.ntmps69
      go_wp2_with (go_at_call 81; refine HC.out.mono ?_; rintro e w1 ⟨rfl, rfl⟩)
      go_ret
      exact ⟨ret_bool HF.out.symm, Below.refl _ _⟩
    · have h15' : ¬ (l.length : Int) < ((layL l).2 : Int) + 15 := by omega
      obtain ⟨g, off, rfl, -⟩ := h.cells (by intro e; rw [e] at h15; simp at h15)
      have b1 : isBytes w (some ⟨g, off, none⟩) (layL l).2 cap (l.take (layL l).2) := by
        have := h.sub 0 (layL l).2 cap (by omega) (by omega) (by omega)
        rwa [List.drop_zero, Nat.add_zero] at this
      have b2 := h.sub (layL l).2 15 (cap - (layL l).2) (by omega) (by decide) (by omega)
      have HF : Hid (crcOkL l = decide (crcZ (strN (l.take (layL l).2)) = (valL ((l.drop (layL l).2).take 15) : Nat))) := by unfold Hid crcOkL; rw [decide_eq_true (p := ¬ _) (by omega)]; simp
      have HV : Hid (∀ w, Calls Try.prog 82 #[.string (strN ((l.drop (layL l).2).take 15))] w fun e w' => e = .returned (.int .i64 (valL ((l.drop (layL l).2).take 15) : Nat)) ∧ w = w') := fun w => l1val15 w b2.small (by rw [List.length_take]; omega)
      have hz1 : (strN (l.take (layL l).2)).size ≤ maxLen := by rw [strN_size, List.length_take]; unfold maxLen; omega
      have HK : Hid (∀ w, Calls Try.prog 16 #[.string (strN (l.take (layL l).2))] w fun e w' => e = .returned (.int .i64 (crcZ (strN (l.take (layL l).2)))) ∧ Below w.heap.size w w') := fun w => specCrc_any _ w hz1
      clear h h0 h15 hz1
      generalize (layL l).1 = H at *
      generalize (layL l).2 = E at *
      generalize l.take E = l1 at *
      generalize (l.drop E).take 15 = l2 at *
      generalize e1 : strN l1 = t1 at *
      generalize e2 : strN l2 = t2 at *
      generalize l.length = n at *
      generalize valL l2 = v2 at *
      generalize crcZ t1 = z1 at *
      have hS0 := ck_S0 e1 e2 b1 b2
      have k1 : (0 : Int) ≤ (E : Int) := by omega
      have k2 : (E : Int) ≤ (cap : Int) := by omega
      have k3 : (E : Int) + 15 ≤ (cap : Int) := by omega
      have k4 : (E : Int) ≤ (E : Int) + 15 := by omega
      have k5 : (0 : Int) ≤ (E : Int) + 15 := by omega
      have k6 : ¬ cap = E := by omega
      have k10 : ¬ cap - E = 0 := by omega
      have k11 : IntKind.i64.wrap ((E : Int) + 15) = (E : Int) + 15 := wrap15 E hh2
      have k7 : ((E : Int) + 15 - (E : Int)).toNat = 15 := by omega
      have k8 : ((E : Int) + 15).toNat = E + 15 := by omega
      have k9 : E + 15 - E = 15 := by omega
      have E12 : Hid (strN l1 = t1 ∧ strN l2 = t2) := ⟨e1, e2⟩
      clear e1 e2
      go_enter Try.func69, Try.ntmps69
      go_wp2_with (go_at_call 81; refine HC.out.mono ?_; rintro e w1 ⟨rfl, rfl⟩)
      go_region_held3 (fun V => (convert 28 9 (.slice (some ⟨g, off, none⟩) E cap)).run Try.prog V = .ok (.string t1) V ∧ (convert 28 9 (.slice (some ⟨g, off + E, none⟩) 15 (cap - E))).run Try.prog V = .ok (.string t2) V ∧ isBytes V (some ⟨g, off, none⟩) E cap l1 ∧ isBytes V (some ⟨g, off + E, none⟩) 15 (cap - E) l2 ∧ Below w.heap.size w V) (first | exact hS0 | assumption | exact ck_S E12.out.1 E12.out.2 (by assumption) (by assumption) (ck_be (by assumption)).size) (first | (go_at_call 16; refine (HK.out _).mono ?_; rintro o w2 ⟨rfl, hb2⟩) | (go_at_call 82; refine (HV.out _).mono ?_; rintro o w3 ⟨rfl, rfl⟩))
      all_goals
        go_wp2
        go_ret
        exact ⟨ret_bool (by rw [HF.out, Bool.eq_iff_iff]; simp), (Below.refl _ _).drew.trans (hb2.mono (by simp))⟩
end Go.Proofs.Ytnefmdjodjpopaa
