import Derived.Test.YtjmlalojfghkiaaDoorR04
namespace Go.Proofs.YtjmlalojfghkiaaDoor
open Go.RowKit
/-- a scan is sound -/
def okS (S : Sc) : Prop := 1 ≤ S.f ∧ S.f ≤ 14 ∧ S.i < 536870912 ∧ 0 ≤ S.d ∧ S.d ≤ 15 ∧ S.l.length ≤ 8 ∧ 1 ≤ S.lf ∧ S.lf ≤ sizeZ S.f S.e S.d ∧ 0 ≤ S.rn ∧ S.rn ≤ 5 ∧ 0 ≤ S.lv ∧ S.lv ≤ 1 ∧ ¬ (S.rn = 0 ∧ S.lv = 1) ∧ ((S.f = 1 ∨ 11 < S.f) ↔ S.rn = 0) ∧ 0 ≤ S.cr ∧ S.cr ≤ 32767 ∧ 0 ≤ S.ac ∧ S.ac ≤ 32767 ∧ (S.f = 9 → S.r = false ∧ S.d ≠ 0 ∧ (S.l.length : Int) = (sizeZ S.f S.e S.d - S.lf + 7) / 8)
theorem sizeZ_le (f : Int) (e : Bool) (d : Int) (h0 : 0 ≤ d) (h1 : d ≤ 15) : 0 ≤ sizeZ f e d ∧ sizeZ f e d ≤ 64 := by
  unfold sizeZ
  cases e <;> simp <;> omega
/-- the answer is a bool that says P -/
def retB (o : Ending) (P : Prop) : Prop := ∃ b : Bool, o = .returned (.bool b) ∧ (b = true ↔ P)
theorem quiet_no {f rn : Int} {P : Prop} (h1 : ¬ f = 1) (h2 : ¬ rn = 0) (h : (!(f == 1 || decide (11 < f)) == (rn == 0)) = true) (hp : 11 < f → ¬ P) : ¬ P := by
  by_cases q : 11 < f
  · exact hp q
  · have e1 : (f == 1) = false := by simpa using h1
    have e2 : (rn == 0) = false := by simpa using h2
    have e3 : decide (11 < f) = false := by simpa using q
    rw [e1, e2, e3] at h
    exact absurd h (by decide)
set_option maxHeartbeats 8000000 in
set_option maxRecDepth 20000 in
theorem l2sound_any (w : World) (S : Sc) (a : Option Addr) (n cap : Nat) (hn : n = S.l.length) (hn1 : n ≤ 1048576) :
    Calls Tryd.prog 19 #[scV S a n cap] w fun o w' => retB o (okS S) ∧ Below w.heap.size w w' := by
  obtain ⟨f, lf, rn, lv, cr, ac, e, i, r, d, l⟩ := S
  simp only [] at hn
  have HN : Hid (n = l.length) := hn
  clear hn
  have HZ : Hid (0 ≤ d → d ≤ 15 → 0 ≤ sizeZ f e d ∧ sizeZ f e d ≤ 64) := sizeZ_le f e d
  have HC : Hid (0 ≤ d → d ≤ 15 → ∀ W, Below w.heap.size w W → Calls Tryd.prog 24 #[.int .i64 f, frV e i r d a n cap] W fun o w' => o = .returned (.int .i64 (sizeZ f e d)) ∧ Below w.heap.size w w' ∧ Below W.heap.size W w') := fun h0 h1 W hW => (l2size_any W f e i r d h0 h1 a n cap).mono (by rintro o w' ⟨rfl, hb⟩; exact ⟨rfl, hW.trans (hb.mono hW.size), hb⟩)
  have HK : Hid (okS ⟨f, lf, rn, lv, cr, ac, e, i, r, d, l⟩ ↔ (1 ≤ f ∧ f ≤ 14 ∧ i < 536870912 ∧ 0 ≤ d ∧ d ≤ 15 ∧ n ≤ 8 ∧ 1 ≤ lf ∧ lf ≤ sizeZ f e d ∧ 0 ≤ rn ∧ rn ≤ 5 ∧ 0 ≤ lv ∧ lv ≤ 1 ∧ ¬ (rn = 0 ∧ lv = 1) ∧ ((f = 1 ∨ 11 < f) ↔ rn = 0) ∧ 0 ≤ cr ∧ cr ≤ 32767 ∧ 0 ≤ ac ∧ ac ≤ 32767 ∧ (f = 9 → r = false ∧ d ≠ 0 ∧ (n : Int) = (sizeZ f e d - lf + 7) / 8))) := by
    unfold okS
    simp only []
    rw [← HN.out]
    exact Iff.rfl
  generalize okS ⟨f, lf, rn, lv, cr, ac, e, i, r, d, l⟩ = P at *
  generalize sizeZ f e d = z at *
  by_cases hi : i < 536870912
  · have hi2 : decide ((536870912 : Int) ≤ (i : Int)) = false := decide_eq_false (by omega)
    have HI : Hid (i < 536870912) := hi
    clear hi
    go_enter Tryd.func19, Tryd.ntmps19
    go_wp2_with (first | (go_at_call 24; refine (HC.out (by omega) (by omega) _ ((Below.refl _ _).alloc (Nat.le_refl _) _)).mono ?_; rintro o w1 ⟨rfl, hb1, hb2⟩; obtain ⟨hc, hf⟩ := bcell hb2; have HB : Hid _ := hb1; have hz := HZ.out (by omega) (by omega); clear hb1 hb2))
    all_goals
      go_ret
      refine ⟨⟨_, rfl, ?_⟩, ?_⟩
      rotate_left
      · first | exact HB.out | exact (Below.refl _ _).alloc (Nat.le_refl _) _
      rw [HK.out]
      have hi := HI.out
      clear HK HC HZ HI
      cases r <;> simp only [Bool.false_eq_true, Bool.true_eq_false, false_iff, true_iff, true_and, false_and, imp_false] <;> first | omega | (simp_all; done) | (simp_all; omega) | (by_cases q : 11 < f <;> simp_all <;> omega) | (by_cases q : 11 < f <;> simp_all; done) | (exact quiet_no (by assumption) (by assumption) (by assumption) (fun q => by omega))
  · have hi2 : decide ((536870912 : Int) ≤ (i : Int)) = true := decide_eq_true (by omega)
    have HI : Hid (¬ i < 536870912) := hi
    clear hi
    go_enter Tryd.func19, Tryd.ntmps19
    go_wp2_with fail
    all_goals
      go_ret
      refine ⟨⟨_, rfl, ?_⟩, (Below.refl _ _).alloc (Nat.le_refl _) _⟩
      rw [HK.out]
      have hi := HI.out
      clear HK HC HZ HI
      simp only [Bool.false_eq_true, false_iff]
      omega
end Go.Proofs.YtjmlalojfghkiaaDoor
