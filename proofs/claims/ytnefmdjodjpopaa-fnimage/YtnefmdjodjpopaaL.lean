import Derived.Test.YtnefmdjodjpopaaI
import Derived.Test.YtnefmdjodjpopaaK
namespace Go.Proofs.Ytnefmdjodjpopaa
open Go.RowKit

theorem same_any (w : World) (e : Bool) (i : Nat) (r : Bool) (d : Int) (a : Option Addr) (n cap : Nat) (l : List Nat) (h : isBytes w a n cap l)
    (e' : Bool) (i' : Nat) (r' : Bool) (d' : Int) (a' : Option Addr) (n' cap' : Nat) (l' : List Nat) (h' : isBytes w a' n' cap' l') :
    Calls Try.prog 59 #[frV e i r d a n cap, frV e' i' r' d' a' n' cap'] w fun o w' => o = .returned (.bool ((e == e') && (r == r') && ((i : Int) == (i' : Int)) && (d == d') && decide (l = l'))) ∧ Below w.heap.size w w' := by
  cases hh : ((e == e') && (r == r'))
  · refine (same_A w e i r d a n cap e' i' r' d' a' n' cap' hh).mono ?_
    rintro o w' ⟨rfl, hb⟩
    exact ⟨rfl, hb⟩
  · cases hi : ((i : Int) == (i' : Int))
    · refine (same_B w e i r d a n cap e' i' r' d' a' n' cap' hh hi).mono ?_
      rintro o w' ⟨rfl, hb⟩
      exact ⟨rfl, hb⟩
    · cases hd : (d == d')
      · refine (same_C w e i r d a n cap e' i' r' d' a' n' cap' hh hi hd).mono ?_
        rintro o w' ⟨rfl, hb⟩
        exact ⟨rfl, hb⟩
      · have e1 : e = e' := by simp at hh; exact hh.1
        have e2 : r = r' := by simp at hh; exact hh.2
        have e3 : i = i' := by simp at hi; omega
        have e4 : d = d' := by simpa using hd
        subst e1 e2 e3 e4
        refine (same_D w e i r d a n cap l h a' n' cap' l' h').mono ?_
        rintro o w' ⟨rfl, hb⟩
        exact ⟨by simp, hb⟩

theorem valid_eq (e : Bool) (i : Nat) (r : Bool) (d : Int) (n : Nat) (i' : Nat) (d' : Int) (k : Nat) (l l' : List Nat)
    (hi' : (if (536870911 : Int) < (i : Int) then (536870911 : Int) else (i : Int)) = (i' : Int)) (hd' : (if (15 : Int) < (if d < 0 then 0 else d) then (15 : Int) else (if d < 0 then 0 else d)) = d') (hk : dl (r && ((n : Int) == 0)) d' = (k : Int))
    (h1 : n = k → l' = l) (h2 : n ≠ k → l' ≠ l) :
    ((e == (e || decide ((2047 : Int) < (i : Int)))) && (r == (r && ((n : Int) == 0))) && ((i : Int) == (i' : Int)) && (d == d') && decide (l = l')) = validB e i r d n := by
  have hl : decide (l = l') = decide (n = k) := by
    by_cases h : n = k
    · rw [h1 h]; simp [h]
    · have := h2 h
      simp only [h, decide_false, decide_eq_false_iff_not]
      exact fun e => this e.symm
  rw [hl]
  unfold validB
  rw [Bool.eq_iff_iff]
  simp only [Bool.and_eq_true, beq_iff_eq, decide_eq_true_iff]
  by_cases hd : 0 ≤ d ∧ d ≤ 15
  · have hdd : d' = d := by
      rw [← hd']
      have a1 : ¬ d < 0 := by omega
      have a2 : ¬ (15 : Int) < d := by omega
      simp [a1, a2]
    rw [hdd] at hk
    rw [hdd]
    by_cases hi : (536870911 : Int) < (i : Int)
    · rw [if_pos hi] at hi'
      constructor
      · rintro ⟨⟨⟨⟨_, _⟩, h3⟩, _⟩, _⟩
        omega
      · rintro ⟨⟨⟨h3, _⟩, _⟩, _⟩
        exfalso
        cases e
        · simp at h3; omega
        · simp at h3; omega
    · rw [if_neg hi] at hi'
      cases e
      · cases r
        · have hkk : dl false d = (k : Int) := hk
          simp
          rw [hkk]
          omega
        · have hkk : dl ((n : Int) == 0) d = (k : Int) := by simpa using hk
          by_cases hn : n = 0
          · subst hn
            have hz : dl true d = 0 := by simp [dl]
            have hk0 : dl true d = (k : Int) := by simpa using hkk
            simp [hz]
            omega
          · have hz : dl true d = 0 := by simp [dl]
            simp [hz, hn]
      · cases r
        · have hkk : dl false d = (k : Int) := hk
          simp
          rw [hkk]
          omega
        · have hkk : dl ((n : Int) == 0) d = (k : Int) := by simpa using hk
          by_cases hn : n = 0
          · subst hn
            have hz : dl true d = 0 := by simp [dl]
            have hk0 : dl true d = (k : Int) := by simpa using hkk
            simp [hz]
            omega
          · have hz : dl true d = 0 := by simp [dl]
            simp [hz, hn]
  · constructor
    · rintro ⟨⟨_, h4⟩, _⟩
      exfalso
      rw [← hd'] at h4
      split at h4
      · omega
      · split at h4 <;> omega
    · rintro ⟨⟨⟨_, h4⟩, h5⟩, _⟩
      exact absurd ⟨h4, h5⟩ hd

theorem vf_be (w W W' : World) (e : Bool) (i : Nat) (r : Bool) (d : Int) (a : Option Addr) (n cap : Nat) (h : W.cell? ⟨w.heap.size, 0, none⟩ = some (.bool e) ∧ W.cell? ⟨w.heap.size, 1, none⟩ = some (.int .u32 (i : Int)) ∧ W.cell? ⟨w.heap.size, 2, none⟩ = some (.bool r) ∧ W.cell? ⟨w.heap.size, 3, none⟩ = some (.int .i64 d) ∧ W.cell? ⟨w.heap.size, 4, none⟩ = some (.slice a n cap) ∧ Below w.heap.size w W ∧ w.heap.size < W.heap.size) (hb : Below W.heap.size W W') : (fun W => W.cell? ⟨w.heap.size, 0, none⟩ = some (.bool e) ∧ W.cell? ⟨w.heap.size, 1, none⟩ = some (.int .u32 (i : Int)) ∧ W.cell? ⟨w.heap.size, 2, none⟩ = some (.bool r) ∧ W.cell? ⟨w.heap.size, 3, none⟩ = some (.int .i64 d) ∧ W.cell? ⟨w.heap.size, 4, none⟩ = some (.slice a n cap) ∧ Below w.heap.size w W ∧ w.heap.size < W.heap.size) W' := by
  obtain ⟨h0, h1, h2, h3, h4, hbl, hz⟩ := h
  exact ⟨(hb.cell (by exact hz)).trans h0, (hb.cell (by exact hz)).trans h1, (hb.cell (by exact hz)).trans h2, (hb.cell (by exact hz)).trans h3, (hb.cell (by exact hz)).trans h4, hbl.trans (hb.mono (by omega)), Nat.lt_of_lt_of_le hz hb.size⟩
theorem vf_0 (w : World) (e : Bool) (i : Nat) (r : Bool) (d : Int) (a : Option Addr) (n cap : Nat) : (fun W => W.cell? ⟨w.heap.size, 0, none⟩ = some (.bool e) ∧ W.cell? ⟨w.heap.size, 1, none⟩ = some (.int .u32 (i : Int)) ∧ W.cell? ⟨w.heap.size, 2, none⟩ = some (.bool r) ∧ W.cell? ⟨w.heap.size, 3, none⟩ = some (.int .i64 d) ∧ W.cell? ⟨w.heap.size, 4, none⟩ = some (.slice a n cap) ∧ Below w.heap.size w W ∧ w.heap.size < W.heap.size) (w.alloc (frC e i r d a n cap 33)).drew := by
  refine ⟨?_, ?_, ?_, ?_, ?_, ((Below.refl _ _).alloc (Nat.le_refl _) _).drew, by simp⟩ <;> go_simp
theorem vf_below {w W : World} {e : Bool} {i : Nat} {r : Bool} {d : Int} {a : Option Addr} {n cap : Nat} (h : W.cell? ⟨w.heap.size, 0, none⟩ = some (.bool e) ∧ W.cell? ⟨w.heap.size, 1, none⟩ = some (.int .u32 (i : Int)) ∧ W.cell? ⟨w.heap.size, 2, none⟩ = some (.bool r) ∧ W.cell? ⟨w.heap.size, 3, none⟩ = some (.int .i64 d) ∧ W.cell? ⟨w.heap.size, 4, none⟩ = some (.slice a n cap) ∧ Below w.heap.size w W ∧ w.heap.size < W.heap.size) : Below w.heap.size w W := h.2.2.2.2.2.1
theorem vf_size {w W : World} {e : Bool} {i : Nat} {r : Bool} {d : Int} {a : Option Addr} {n cap : Nat} (h : W.cell? ⟨w.heap.size, 0, none⟩ = some (.bool e) ∧ W.cell? ⟨w.heap.size, 1, none⟩ = some (.int .u32 (i : Int)) ∧ W.cell? ⟨w.heap.size, 2, none⟩ = some (.bool r) ∧ W.cell? ⟨w.heap.size, 3, none⟩ = some (.int .i64 d) ∧ W.cell? ⟨w.heap.size, 4, none⟩ = some (.slice a n cap) ∧ Below w.heap.size w W ∧ w.heap.size < W.heap.size) : w.heap.size < W.heap.size := h.2.2.2.2.2.2

set_option maxHeartbeats 2000000 in
set_option maxRecDepth 20000 in
theorem valid_any (w : World) (e : Bool) (i : Nat) (r : Bool) (d : Int) (a : Option Addr) (n cap : Nat) (l : List Nat) (h : isBytes w a n cap l) :
    Calls Try.prog 25 #[frV e i r d a n cap] w fun o w' => o = .returned (.bool (validB e i r d n)) ∧ Below w.heap.size w w' := by
  obtain ⟨i', hi'⟩ : ∃ i' : Nat, (if (536870911 : Int) < (i : Int) then (536870911 : Int) else (i : Int)) = (i' : Int) := by
    split
    · exact ⟨536870911, rfl⟩
    · exact ⟨i, rfl⟩
  obtain ⟨d', hd'⟩ : ∃ d' : Int, (if (15 : Int) < (if d < 0 then 0 else d) then (15 : Int) else (if d < 0 then 0 else d)) = d' := ⟨_, rfl⟩
  have hd0 : 0 ≤ d' := by rw [← hd']; split <;> (try split) <;> omega
  have hdb := dl_bounds (r && ((n : Int) == 0)) d' hd0
  obtain ⟨k, hk⟩ : ∃ k : Nat, dl (r && ((n : Int) == 0)) d' = (k : Int) := ⟨(dl (r && ((n : Int) == 0)) d').toNat, by omega⟩
  have hk8 : k ≤ 8 := by omega
  have HF : Hid (∀ W : World, isBytes W a n cap l → Calls Try.prog 60 #[frV e i r d a n cap] W fun o w' => ∃ a' n' cap' l', o = .returned (frV (e || decide ((2047 : Int) < (i : Int))) i' (r && ((n : Int) == 0)) d' a' n' cap') ∧ isBytes w' a' n' cap' l' ∧ Below W.heap.size W w' ∧ (n = k → l' = l) ∧ (n ≠ k → l' ≠ l)) :=
    fun W hW => fitted_any W e i r d a n cap l hW i' d' k hi' hd' hk hk8
  have HV : Hid (∀ l', (n = k → l' = l) → (n ≠ k → l' ≠ l) → ((e == (e || decide ((2047 : Int) < (i : Int)))) && (r == (r && ((n : Int) == 0))) && ((i : Int) == (i' : Int)) && (d == d') && decide (l = l')) = validB e i r d n) :=
    fun l' h1 h2 => valid_eq e i r d n i' d' k l l' hi' hd' hk h1 h2
  have HH : Hid (isBytes w a n cap l) := h
  clear h hi' hd' hk hk8 hdb hd0
  generalize (e || decide ((2047 : Int) < (i : Int))) = e1 at *
  generalize (r && ((n : Int) == 0)) = r1 at *
  go_enter Try.func25, Try.ntmps25
  go_wp2
  go_region_held3 (fun W => W.cell? ⟨w.heap.size, 0, none⟩ = some (.bool e) ∧ W.cell? ⟨w.heap.size, 1, none⟩ = some (.int .u32 (i : Int)) ∧ W.cell? ⟨w.heap.size, 2, none⟩ = some (.bool r) ∧ W.cell? ⟨w.heap.size, 3, none⟩ = some (.int .i64 d) ∧ W.cell? ⟨w.heap.size, 4, none⟩ = some (.slice a n cap) ∧ Below w.heap.size w W ∧ w.heap.size < W.heap.size) (first | exact vf_0 w e i r d a n cap | exact vf_be _ _ _ _ _ _ _ _ _ _ (by assumption) (by assumption) | assumption) (first | (go_at_call 60; refine (HF.out _ (HH.out.below (vf_below (by assumption)))).mono ?_; rintro o w1 ⟨a', n', cap', l', rfl, hby, hbel, hc1, hc2⟩; have HC : Hid ((n = k → l' = l) ∧ (n ≠ k → l' ≠ l)) := ⟨hc1, hc2⟩; clear hc1 hc2) | (go_at_call 59; refine (same_any _ _ _ _ _ _ _ _ l (HH.out.below (vf_below (by assumption))) _ _ _ _ _ _ _ l' hby).mono ?_; rw [HV.out l' HC.out.1 HC.out.2]; rintro o w2 ⟨rfl, hbel2⟩))
  rename_i hS
  have hbl := vf_below hS
  clear hS
  go_wp2
  go_ret
  exact ⟨rfl, hbl⟩
end Go.Proofs.Ytnefmdjodjpopaa
