import Derived.Test.YtnefmdjodjpopaaAF
namespace Go.Proofs.Ytnefmdjodjpopaa
open Go.RowKit

set_option maxHeartbeats 2000000 in
theorem genText_any (w0 w : World) (b : Nat) (a : Option Addr) (n cap i : Nat) (l : List Nat) (most : Nat) (h : srcI w0 b a n cap l i w) (hi : i ≤ 1000000000) (hm : most ≤ 3000000) :
    Calls Try.prog 77 #[.pointer (some ⟨b, 0, none⟩), .int .i64 (most : Int)] w fun o w' => ∃ (t : List Nat) (i' : Nat), o = .returned (.string (strN t)) ∧ (∀ x ∈ t, M.isL x) ∧ t.length ≤ most ∧ i' ≤ i + 1 + 3 * most ∧ srcI w0 b a n cap l i' w' ∧ w.grownBy w' (some b) := by
  have hbw := h.lt
  go_enter Try.func77, Try.ntmps77
  go_wp2_with fail
  refine (n_any w0 w b a n cap i l (most + 1) h (by omega) (by omega)).mono ?_
  rintro o w1 ⟨N, rfl, _, hN, hI1, hg1⟩
  have hN' : N ≤ most := by
    by_cases hm0 : 1 < most + 1
    · have := hN hm0; omega
    · have : most = 0 := by omega
      subst this
      rename_i h0 
      have := h0 (by omega)
      omega
  clear hN h
  have hB1 : w.heap.size ≤ w1.heap.size := hg1.size
  have hown0 := own_nil w1 w1.heap.size (Nat.le_refl _)
  have hb1 : b < w1.heap.size := hI1.lt
  have hI2 : srcI w0 b a n cap l (i + 1) (w1.alloc (.cells #[] 5)) := hI1.below ((Below.refl w1.heap.size w1).alloc (Nat.le_refl _) _) hb1
  have hg2 : w1.grownBy (w1.alloc (.cells #[] 5)) (some b) := World.grownBy_alloc w1 _ (some b)
  go_wp2_with fail
  go_loopw [6, 7, 8, 9] (fun v c _ _ wr => ∃ (t : List Nat) (i' cc : Nat), c = .int .u8 (cc : Int) ∧ M.isL cc ∧ ownsB wr w1.heap.size v t ∧ (∀ x ∈ t, M.isL x) ∧ t.length ≤ N ∧ i' ≤ i + 1 + 3 * t.length ∧ srcI w0 b a n cap l i' wr ∧ w1.grownBy wr (some b)) (fun v _ _ _ _ => N - lenOf v)
  case atStart => exact ⟨[], i + 1, 48, rfl, .inl rfl, hown0, (fun x hx => by cases hx), Nat.zero_le _, Nat.le_refl _, hI2, hg2⟩
  case round =>
    clear hown0 hI2 hg2
    obtain ⟨t, i', cc, rfl, hcc, hown, hall, htN, hi', hI, hg⟩ := hrel
    obtain ⟨ao, cp, rfl⟩ := hown.shape
    by_cases hlt : t.length < N
    · go_wp2_with fail
      refine (n_7 w0 wr b a n cap i' l hI (by omega)).mono ?_
      rintro o w2 ⟨r1, rfl, hr1, hI2, hg2⟩
      have hown2 := hown.gb hg2 hb1
      have hgg2 := gb_trans hg hg2
      clear hown hI hg hg2
      go_wp2_with fail
      refine (n_3 w0 w2 b a n cap _ l hI2 (by omega)).mono ?_
      rintro o w3 ⟨r2, rfl, hr2, hI3, hg3⟩
      have hown3 := hown2.gb hg3 hb1
      have hgg3 := gb_trans hgg2 hg3
      clear hown2 hI2 hgg2 hg3
      by_cases hr0 : r2 = 0
      · subst hr0
        go_wp2_with fail
        have hgoal : True := trivial
        clear hgoal
        go_loopw [6, 9] (fun v j wr => ∃ (t' : List Nat) (jj : Nat), j = .int .i64 (jj : Int) ∧ jj ≤ (1 + r1) ∧ t.length + jj ≤ t'.length ∧ t'.length ≤ t.length + jj ∧ ownsB wr w1.heap.size v t' ∧ (∀ x ∈ t', M.isL x) ∧ t'.length ≤ N ∧ srcI w0 b a n cap l (i' + 1 + 1) wr ∧ w1.grownBy wr (some b)) (fun _ j _ => (1 + r1) - (intOf j).toNat)
        case atStart => exact ⟨t, 0, rfl, Nat.zero_le _, Nat.le_refl _, Nat.le_refl _, hown3, hall, htN, hI3, hgg3⟩
        case round =>
          clear hI3 hown3 hgg3
          obtain ⟨t', jj, rfl, hjk, ht1, ht2, hown, hall', htN', hI, hg⟩ := hrel
          obtain ⟨ao', cp', rfl⟩ := hown.shape
          by_cases hin : jj < (1 + r1) ∧ t'.length < N
          · obtain ⟨hj, hl'⟩ := hin
            have hBw : w1.heap.size ≤ wr.heap.size := hg.size
            go_wp2_with (first | (at_builtin; refine app_byte2 wr wr rfl (.tmp 39) (.tmp 41) rfl w1.heap.size _ t' cc _ rfl rfl hown rfl (by omega) hBw (Below.refl _ _) ?_))
            intro v5 w5 ho5 hb5 _
            have hI5 := hI.below hb5 hb1
            have hg5 := gb_below hg hb5
            have hall5 : ∀ x ∈ t' ++ [cc], M.isL x := by
              intro x hx
              simp at hx
              rcases hx with hx | rfl
              · exact hall' x hx
              · exact hcc
            clear hown hI hg hb5
            go_wp2
            go_roundw
            case rel => exact ⟨t' ++ [cc], jj + 1, by go_num, by omega, by simp; omega, by simp; omega, ho5, hall5, by simp; omega, hI5, hg5⟩
            case measure => simp [intOf]; omega
          · have hpr : t.length < t'.length := by
              by_cases hj : jj < (1 + r1)
              · have : ¬ t'.length < N := fun e => hin ⟨hj, e⟩
                omega
              · omega
            have hopp := M.isL_opp hcc
            by_cases hj : jj < (1 + r1)
            · have hl' : ¬ t'.length < N := fun e => hin ⟨hj, e⟩
              clear hin
              go_wp2_with (first | (go_at_call 54; refine (other_any cc _ hcc).mono ?_; rintro o w6 ⟨rfl, rfl⟩))
              go_roundw
              case rel => exact ⟨t', i' + 1 + 1, 97 - cc, rfl, hopp.1, hown, hall', htN', by omega, hI, hg⟩
              case measure => simp [lenOf]; omega
            · clear hin
              go_wp2_with (first | (go_at_call 54; refine (other_any cc _ hcc).mono ?_; rintro o w6 ⟨rfl, rfl⟩))
              go_roundw
              case rel => exact ⟨t', i' + 1 + 1, 97 - cc, rfl, hopp.1, hown, hall', htN', by omega, hI, hg⟩
              case measure => simp [lenOf]; omega
      · have hr0' : (0 : Int) < (r2 : Int) := by omega
        go_wp2_with fail
        refine (n_2 w0 w3 b a n cap _ l hI3 (by omega)).mono ?_
        rintro o w4 ⟨r3, rfl, hr3, hI4, hg4⟩
        have hown4 := hown3.gb hg4 hb1
        have hgg4 := gb_trans hgg3 hg4
        clear hown3 hI3 hgg3 hg4
        go_wp2_with fail
        have hgoal : True := trivial
        clear hgoal
        go_loopw [6, 9] (fun v j wr => ∃ (t' : List Nat) (jj : Nat), j = .int .i64 (jj : Int) ∧ jj ≤ (1 + r3) ∧ t.length + jj ≤ t'.length ∧ t'.length ≤ t.length + jj ∧ ownsB wr w1.heap.size v t' ∧ (∀ x ∈ t', M.isL x) ∧ t'.length ≤ N ∧ srcI w0 b a n cap l (i' + 1 + 1 + 1) wr ∧ w1.grownBy wr (some b)) (fun _ j _ => (1 + r3) - (intOf j).toNat)
        case atStart => exact ⟨t, 0, rfl, Nat.zero_le _, Nat.le_refl _, Nat.le_refl _, hown4, hall, htN, hI4, hgg4⟩
        case round =>
          clear hI4 hown4 hgg4
          obtain ⟨t', jj, rfl, hjk, ht1, ht2, hown, hall', htN', hI, hg⟩ := hrel
          obtain ⟨ao', cp', rfl⟩ := hown.shape
          by_cases hin : jj < (1 + r3) ∧ t'.length < N
          · obtain ⟨hj, hl'⟩ := hin
            have hBw : w1.heap.size ≤ wr.heap.size := hg.size
            go_wp2_with (first | (at_builtin; refine app_byte2 wr wr rfl (.tmp 39) (.tmp 41) rfl w1.heap.size _ t' cc _ rfl rfl hown rfl (by omega) hBw (Below.refl _ _) ?_))
            intro v5 w5 ho5 hb5 _
            have hI5 := hI.below hb5 hb1
            have hg5 := gb_below hg hb5
            have hall5 : ∀ x ∈ t' ++ [cc], M.isL x := by
              intro x hx
              simp at hx
              rcases hx with hx | rfl
              · exact hall' x hx
              · exact hcc
            clear hown hI hg hb5
            go_wp2
            go_roundw
            case rel => exact ⟨t' ++ [cc], jj + 1, by go_num, by omega, by simp; omega, by simp; omega, ho5, hall5, by simp; omega, hI5, hg5⟩
            case measure => simp [intOf]; omega
          · have hpr : t.length < t'.length := by
              by_cases hj : jj < (1 + r3)
              · have : ¬ t'.length < N := fun e => hin ⟨hj, e⟩
                omega
              · omega
            have hopp := M.isL_opp hcc
            by_cases hj : jj < (1 + r3)
            · have hl' : ¬ t'.length < N := fun e => hin ⟨hj, e⟩
              clear hin
              go_wp2_with (first | (go_at_call 54; refine (other_any cc _ hcc).mono ?_; rintro o w6 ⟨rfl, rfl⟩))
              go_roundw
              case rel => exact ⟨t', i' + 1 + 1 + 1, 97 - cc, rfl, hopp.1, hown, hall', htN', by omega, hI, hg⟩
              case measure => simp [lenOf]; omega
            · clear hin
              go_wp2_with (first | (go_at_call 54; refine (other_any cc _ hcc).mono ?_; rintro o w6 ⟨rfl, rfl⟩))
              go_roundw
              case rel => exact ⟨t', i' + 1 + 1 + 1, 97 - cc, rfl, hopp.1, hown, hall', htN', by omega, hI, hg⟩
              case measure => simp [lenOf]; omega
    · have hcv := conv_own hown (isL_lt hall)
      go_wp2
      go_ret
      exact ⟨t, i', rfl, hall, by omega, by omega, hI, gb_trans hg1 hg⟩
end Go.Proofs.Ytnefmdjodjpopaa
