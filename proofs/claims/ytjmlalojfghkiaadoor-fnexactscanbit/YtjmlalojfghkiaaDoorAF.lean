import Derived.Test.YtjmlalojfghkiaaDoorAE
namespace Go.Proofs.YtjmlalojfghkiaaDoor
open Go.RowKit
set_option linter.unusedVariables false
theorem dataZ_len (l : List Nat) (lf : Int) (b : Nat) : (dataZ l lf b).length ≤ l.length + 1 := by
  unfold dataZ
  split
  · simp
  · simp
theorem dataZ_small (l : List Nat) (lf : Int) (b : Nat) (hb : b < 2) (hs : ∀ x ∈ l, x < 256) : ∀ x ∈ dataZ l lf b, x < 256 := by
  intro x hx
  unfold dataZ at hx
  split at hx
  · rcases List.mem_append.1 hx with h | h
    · exact hs x h
    · simp at h; omega
  · rcases List.mem_or_eq_of_mem_set hx with h | h
    · exact hs x h
    · subst h; exact Nat.mod_lt _ (by decide)
theorem feedZ_l (S : Sc) (b : Nat) : (feedZ S b).l = S.l ∨ (feedZ S b).l = dataZ S.l S.lf b := by
  unfold feedZ
  split
  · exact Or.inl rfl
  split
  · exact Or.inl rfl
  split
  · exact Or.inl rfl
  split
  · exact Or.inl rfl
  split
  · exact Or.inr rfl
  exact Or.inl rfl
theorem nextT_l (T : Sc) : (nextT T).l = T.l ∨ (nextT T).l = [] := by
  unfold nextT
  split
  · by_cases h : afterZ T.f T.e T.r T.d = 9
    · exact Or.inr (if_pos h)
    · exact Or.inl (if_neg h)
  · exact Or.inl rfl
theorem before_l (S : Sc) (b : Nat) : (accT (sumT (hearT S b) b) b).l = S.l := by
  unfold accT sumT hearT
  repeat' split
  all_goals rfl
theorem stepT_l (S : Sc) (b : Nat) (hb : b < 2) (hs : ∀ x ∈ S.l, x < 256) (hn : S.l.length ≤ 8) : (stepT S b).l.length ≤ 9 ∧ ∀ x ∈ (stepT S b).l, x < 256 := by
  have hB := before_l S b
  unfold stepT
  generalize accT (sumT (hearT S b) b) b = U at *
  rcases nextT_l (feedZ U b) with h | h
  · rw [h]
    rcases feedZ_l U b with h2 | h2
    · rw [h2, hB]; exact ⟨by omega, hs⟩
    · rw [h2, hB]; exact ⟨by have := dataZ_len S.l U.lf b; omega, dataZ_small _ _ _ hb hs⟩
  · rw [h]; exact ⟨by simp, by simp⟩
theorem ansB.mono {w : World} {B B' : Nat} {l : List Nat} {a : Option Addr} {n k : Nat} (h : ansB w B l a n k) (hb : B' ≤ B) : ansB w B' l a n k := by
  rcases h with ⟨g, h1, h2, h3⟩ | h
  · exact Or.inl ⟨g, h1, h2.mono hb, h3⟩
  · exact Or.inr h
/-- the two scanners, side by side -/
structure SC (S : Sc) (bit : Int) (T : Sc) (c : Int) : Prop where
  len : T.l.length ≤ 9
  small : ∀ x ∈ T.l, x < 256
  sp : ∀ (w : World) (a : Option Addr) (n cap : Nat), isBytes w a n cap S.l → n ≤ 1048576 → Calls Tryd.prog 6 #[scV S a n cap, .int .i64 bit] w fun o w' => ∃ ao n' k', o = .returned (.tuple #[scV T ao n' k', .int .i64 c]) ∧ isBytes w' ao n' k' T.l ∧ Below w.heap.size w w'
  im : ∀ (w : World) (g n cap : Nat), w.rangeAt 0 0 tabL → 0 < w.heap.size → isBytes w (some ⟨g, 0, none⟩) n cap S.l → n ≤ 1048576 → Calls Tryd.prog 8 #[scV S (some ⟨g, 0, none⟩) n cap, .int .i64 bit] w fun o w' => ∃ a n' k', o = .returned (.tuple #[scV T a n' k', .int .i64 c]) ∧ ansB w' w.heap.size T.l a n' k' ∧ Below w.heap.size w w'
theorem SC_end (S : Sc) (bit c : Int)
    (h1 : ∀ (w : World) (a : Option Addr) (n cap : Nat), isBytes w a n cap S.l → n ≤ 1048576 → Calls Tryd.prog 6 #[scV S a n cap, .int .i64 bit] w fun o w' => o = .returned (.tuple #[scV scZ none 0 0, .int .i64 c]) ∧ Below w.heap.size w w')
    (h2 : ∀ (w : World) (g n cap : Nat), w.rangeAt 0 0 tabL → 0 < w.heap.size → isBytes w (some ⟨g, 0, none⟩) n cap S.l → n ≤ 1048576 → Calls Tryd.prog 8 #[scV S (some ⟨g, 0, none⟩) n cap, .int .i64 bit] w fun o w' => o = .returned (.tuple #[scV scZ none 0 0, .int .i64 c]) ∧ Below w.heap.size w w') : SC S bit scZ c := by
  refine ⟨by simp, by simp, fun w a n cap h hn => (h1 w a n cap h hn).mono ?_, fun w g n cap hg hz h hn => (h2 w g n cap hg hz h hn).mono ?_⟩
  · rintro o w' ⟨rfl, hb⟩
    exact ⟨none, 0, 0, rfl, scZ_bytes _, hb⟩
  · rintro o w' ⟨rfl, hb⟩
    exact ⟨none, 0, 0, rfl, Or.inr ⟨rfl, rfl, rfl, rfl⟩, hb⟩
theorem okS_bd (S : Sc) (hS : okS S) (hs : ∀ x ∈ S.l, x < 256) : bd S := by
  obtain ⟨h1, h2, h3, h4, h5, h6, h7, h8, h9, h10, h11, h12, h13, h14, h15, h16, h17, h18, h19⟩ := hS
  have hsz := sizeZ_le S.f S.e S.d h4 h5
  refine ⟨h1, h2, h3, h4, h5, h6, h7, by omega, h15, h16, h17, h18, hs, fun h9' h8' => ?_⟩
  obtain ⟨q1, q2, q3⟩ := h19 h9'
  have hm : sizeZ S.f S.e S.d % 8 = 0 := by rw [h9']; unfold sizeZ; simp; split <;> omega
  omega
theorem SC_is (S : Sc) (bit : Int) (hs : ∀ x ∈ S.l, x < 256) : ∃ T c, SC S bit T c := by
  by_cases hok : okS S ∧ (bit = 0 ∨ bit = 1)
  · obtain ⟨hS, hbit⟩ := hok
    obtain ⟨b, hb, rfl⟩ : ∃ b : Nat, b < 2 ∧ bit = (b : Int) := by
      rcases hbit with rfl | rfl
      · exact ⟨0, by decide, rfl⟩
      · exact ⟨1, by decide, rfl⟩
    have hl8 : S.l.length ≤ 8 := hS.2.2.2.2.2.1
    have hlf : 1 ≤ S.lf := hS.2.2.2.2.2.2.1
    by_cases h5 : S.rn = 5
    · by_cases hv : (b : Int) = S.lv
      · exact ⟨scZ, 3, SC_end S _ _ (fun w a n cap h hn => specScan_stuff w S hS a n cap h b hb h5 hv) (fun w g n cap hg hz h hn => implScan_no w hg hz S hS g n cap h b hb 3 (by decide) (fun W g' k' hW => (take_stuff W _ S _ n k' hW b h5 hv).mono (by rintro o w' ⟨rfl, rfl⟩; exact ⟨rfl, Below.refl _ _⟩)))⟩
      · refine ⟨{ S with rn := 1, lv := b }, 0, by show S.l.length ≤ 9; omega, hs, fun w a n cap h hn => specScan_due w S hS a n cap h b hb h5 hv, fun w g n cap hg hz h hn => ?_⟩
        refine (implScan_yes w hg hz S hS g n cap h b hb 0 (by decide) { S with rn := 1, lv := b } (fun W g' k' hW hB hk => (take_due W _ _ (by omega) S g' n k' hk b h5 hv).mono ?_)).mono ?_
        · rintro o w' ⟨rfl, hk'⟩
          exact ⟨rfl, Or.inl ⟨_, _, _, hk'⟩⟩
        · rintro o w' ⟨a, n', k', rfl, h1, h2⟩
          exact ⟨a, n', k', rfl, h1.mono (by omega), h2⟩
    · by_cases hc : verdZ S.f S.lf S.cr S.ac b = 0 ∨ verdZ S.f S.lf S.cr S.ac b = 1
      · have hst := stepT_l S b hb hs hl8
        have h13 : S.lf = 1 → S.f ≤ 13 := by
          intro e
          rcases Int.lt_or_le 13 S.f with h | h
          · have hf : S.f = 14 := by have := hS.2.1; omega
            rw [hf, e] at hc
            rcases (by omega : b = 0 ∨ b = 1) with rfl | rfl
            · exact absurd hc (by simp [verdZ])
            · exact absurd hc (by simp [verdZ])
          · exact h
        refine ⟨stepT S b, verdZ S.f S.lf S.cr S.ac b, hst.1, hst.2, fun w a n cap h hn => specScan_main w S hS a n cap h b hb h5 hc, fun w g n cap hg hz h hn => ?_⟩
        refine (implScan_yes w hg hz S hS g n cap h b hb _ hc (stepT S b) (fun W g' k' hW hB hk => take_on W _ _ hz (by omega) hB hW S (okS_bd S hS hs) hS.2.2.2.2.2.2.2.2.1 hS.2.2.2.2.2.2.2.2.2.1 g' n k' hk b hb h5 hc h13)).mono ?_
        rintro o w' ⟨a, n', k', rfl, h1, h2⟩
        exact ⟨a, n', k', rfl, h1.mono (by omega), h2⟩
      · have hc' : verdZ S.f S.lf S.cr S.ac b ≠ 0 ∧ verdZ S.f S.lf S.cr S.ac b ≠ 1 := ⟨fun e => hc (Or.inl e), fun e => hc (Or.inr e)⟩
        exact ⟨scZ, _, SC_end S _ _ (fun w a n cap h hn => specScan_end w S hS a n cap h b hb h5 hc') (fun w g n cap hg hz h hn => implScan_no w hg hz S hS g n cap h b hb _ hc' (fun W g' k' hW => take_end W _ S _ n k' hW hlf b hb h5 hc'))⟩
  · exact ⟨scZ, 8, SC_end S _ _ (fun w a n cap h hn => specScan_bad w S a n cap h.len hn bit hok) (fun w g n cap hg hz h hn => implScan_bad w hg hz S _ n cap h.len hn bit hok)⟩
end Go.Proofs.YtjmlalojfghkiaaDoor
