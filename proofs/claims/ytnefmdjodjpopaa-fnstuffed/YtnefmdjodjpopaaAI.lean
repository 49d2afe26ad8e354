import Derived.Test.YtnefmdjodjpopaaAH
namespace Go.Proofs.Ytnefmdjodjpopaa
namespace M
theorem take_snoc_le {α : Type} (l : List α) (c : α) (k : Nat) (h : k ≤ l.length) : (l ++ [c]).take k = l.take k := List.take_append_of_le_length h
theorem runs_le (l : List Nat) (h : ∀ x ∈ l, isL x) : ∀ k, (trail ((stuffL l).take k)).2 ≤ 5 := by
  induction l using snoc_ind with
  | h0 => intro k; simp [stuffL, trail]
  | h1 l a ih =>
    have ha : isL a := h a (by simp)
    have hl : ∀ x ∈ l, isL x := fun x hx => h x (by simp [hx])
    have h4 := stuff_run l hl
    have ih' := ih hl
    have hA : ∀ k, (trail ((stuffL l ++ [a]).take k)).2 ≤ 5 := by
      intro k
      by_cases hk : k ≤ (stuffL l).length
      · rw [take_snoc_le _ _ _ hk]; exact ih' k
      · rw [List.take_of_length_le (by simp; omega), trail_snoc]
        exact Nat.le_trans (hear_le _ _) (by omega)
    intro k
    rw [stuffL_snoc]
    unfold stStep
    split
    · by_cases hk : k ≤ (stuffL l ++ [a]).length
      · rw [take_snoc_le _ _ _ hk]; exact hA k
      · rw [List.take_of_length_le (by simp at hk ⊢; omega), trail_snoc, trail_snoc]
        have hf := hear_fst (trail (stuffL l)) a
        generalize hear (trail (stuffL l)) a = r at *
        obtain ⟨x, m⟩ := r
        simp only at hf
        subst hf
        rw [hear_other _ _ _ (isL_opp ha).2]
        exact (by decide : 1 ≤ 5)
    · exact hA k
theorem ds_stuff (l : List Nat) (h : ∀ x ∈ l, isL x) : ∀ q, dsGo (stuffL l ++ q) 0 [] (0, 0) = dsGo q (stuffL l).length l (trail (stuffL l)) := by
  induction l using snoc_ind with
  | h0 => intro q; simp [stuffL, trail]
  | h1 l a ih =>
    have ha : isL a := h a (by simp)
    have hl : ∀ x ∈ l, isL x := fun x hx => h x (by simp [hx])
    have h4 := stuff_run l hl
    have ih' := ih hl
    intro q
    rw [stuffL_snoc]
    unfold stStep
    split
    · rename_i h5
      rw [List.append_assoc, List.append_assoc, ih', List.singleton_append, dsGo_put _ _ _ _ _ (by omega), List.singleton_append, ← trail_snoc,
        dsGo_skip _ _ _ _ _ h5 (by rw [trail_snoc, hear_fst]; exact (isL_opp ha).2), ← trail_snoc]
      simp
    · rw [List.append_assoc, ih', List.singleton_append, dsGo_put _ _ _ _ _ (by omega), ← trail_snoc]
      simp
theorem ds_stuff_all (l : List Nat) (h : ∀ x ∈ l, isL x) : dsGo (stuffL l) 0 [] (0, 0) = (l, -1) := by
  have := ds_stuff l h []
  rw [List.append_nil] at this
  rw [this]; rfl
end M
open Go.RowKit
theorem isBytes_size {w : World} {a : Option Addr} {n cap : Nat} {l : List Nat} (h : isBytes w a n cap l) : n = l.length := h.len
theorem stuffZ_bad {t : ByteArray} (h : okT t 2000 = false) : stuffZ t = ⟨#[]⟩ := by simp [stuffZ, h]
theorem toList_strN (l : List Nat) : (strN l).toList = l.map UInt8.ofNat := by unfold strN; rw [ByteArray.toList_eq]
theorem strN_at (l : List Nat) (k : Nat) (h : k < l.length) (h' : k < (strN l).size) (hs : ∀ x ∈ l, x < 256) : ((strN l)[k]'h').toNat = l[k] := by
  have hx := hs l[k] (List.getElem_mem h)
  have e : (strN l)[k]'h' = UInt8.ofNat l[k] := by
    show (strN l).data[k]'h' = _
    simp [strN]
  rw [e]; simp; omega
theorem trail_at (l : List Nat) (k : Nat) (h : k < l.length) : (M.trail (l.take (k + 1))).2 = if k = 0 then 1 else if l[k] = l.getD (k - 1) 0 then (M.trail (l.take k)).2 + 1 else 1 := by
  rw [M.take_at l k h, M.trail_snoc]
  by_cases hk : k = 0
  · subst hk
    rw [if_pos rfl]
    simp only [List.take_zero, M.trail, List.foldl_nil, M.hear]
    by_cases hc : l[0] = 0 <;> simp [hc]
  · rw [if_neg hk]
    obtain ⟨m, rfl⟩ : ∃ m, k = m + 1 := ⟨k - 1, by omega⟩
    have hf := M.trail_last l m (by omega)
    have hg : l.getD (m + 1 - 1) 0 = l[m] := by simp [List.getD, show m < l.length by omega]
    rw [hg, ← hf]
    unfold M.hear
    split <;> simp_all

set_option maxHeartbeats 2000000 in
set_option maxRecDepth 20000 in
theorem lawStuffed (a : Option Addr) (n cap : Nat) (l : List Nat) (w : World) (h : isBytes w a n cap l) (hn : n ≤ 9223372036854775807) :
    Calls Try.prog 10 #[.slice a n cap] w fun o w' => o = .returned (.bool true) ∧ Below w.heap.size w w' := by
  by_cases hl : (1048576 : Int) < (n : Int)
  · go_enter Try.func10, Try.ntmps10
    go_wp2
    go_ret
    exact ⟨rfl, Below.refl _ _⟩
  · have hn' : n ≤ 1048576 := by omega
    have HH : Hid (isBytes w a n cap l) := h
    clear h
    go_enter Try.func10, Try.ntmps10
    go_wp2_with fail
    refine (drawStuff_any w a n cap l HH.out hn').mono ?_
    rintro o w1 ⟨t, rfl, ht, hB1⟩
    have htm : t.size ≤ maxLen := by unfold maxLen; omega
    go_wp2_with fail
    refine (stuff_any t w1).mono ?_
    rintro o w2 ⟨rfl, hb2⟩
    have hB2 := hB1.trans (hb2.mono hB1.size)
    clear hb2 hB1
    go_wp2_with fail
    refine (specStuff_any t w2 htm).mono ?_
    rintro o w3 ⟨rfl, hb3⟩
    have hB3 := hB2.trans (hb3.mono hB2.size)
    clear hb3 hB2
    by_cases hok : okT t 2000 = true
    · have hsz := okT_size hok
      have HZ : Hid (stuffZ t = strN (M.stuffL (lt t))) := by simp [stuffZ, hok, Hid]
      have hL := lt_isL hok
      have HL : Hid (∀ x ∈ lt t, M.isL x) := hL
      have hsl := M.stuff_len (lt t)
      have hsg := M.stuff_ge (lt t)
      rw [lt_length] at hsl hsg
      have hss : (strN (M.stuffL (lt t))).size = (M.stuffL (lt t)).length := strN_size _
      rw [HZ.out]
      have hall := M.stuff_all _ hL
      have HSM : Hid (∀ x ∈ M.stuffL (lt t), x < 256) := isL_lt hall
      have HR : Hid (∀ k, (M.trail ((M.stuffL (lt t)).take k)).2 ≤ 5) := M.runs_le _ hL
      have HD : Hid (destZ (strN (M.stuffL (lt t))) = (t, -1)) := by
        unfold Hid destZ
        rw [if_pos (okT_strN _ 4000 hall (by omega)), lt_strN _ (isL_lt hall), M.ds_stuff_all _ hL, strN_lt]
      clear hok hL HL HZ hall
      generalize M.stuffL (lt t) = S at *
      by_cases ht0 : t.size = 0
      · have hS0 : S.length = 0 := by omega
        have hc0 : ¬ (0 : Int) < (t.size : Int) := by omega
        have hS1 : S.length ≤ 0 := by omega
        clear hsg hsl hS0
        go_wp2_with fail
        go_loopw [5, 6] (fun run i wr => ∃ k : Nat, k ≤ S.length ∧ i = .int .i64 (k : Int) ∧ run = .int .i64 (((M.trail (S.take k)).2 : Nat) : Int) ∧ ∃ q, wr = w3.drewN q) (fun _ i _ => S.length - (intOf i).toNat)
        case atStart => exact ⟨0, Nat.zero_le _, rfl, rfl, 0, rfl⟩
        case round =>
          obtain ⟨k, hk, rfl, rfl, q, rfl⟩ := hrel
          have hr5 := HR.out k
          have hr6 := HR.out (k + 1)
          by_cases hlt : k < S.length
          · exact absurd hlt (by omega)
          · go_wp2_with fail
            refine (destuff_any _ _).mono ?_
            rw [HD.out]
            rintro o w5 ⟨rfl, hb5⟩
            have hB5 := hB3.trans (((below_q w3 q).trans hb5).mono hB3.size)
            have htt : (t.toList == t.toList) = true := by simp
            go_wp2
            go_ret
            exact ⟨rfl, hB5⟩
      · have hc0 : (0 : Int) < (t.size : Int) := by omega
        have hne : (strN S).toList.isEmpty = false := by
          rw [toList_strN]
          have : 0 < S.length := by omega
          cases S with
          | nil => simp at this
          | cons x S => rfl
        clear hsg
        go_wp2_with fail
        go_loopw [5, 6] (fun run i wr => ∃ k : Nat, k ≤ S.length ∧ i = .int .i64 (k : Int) ∧ run = .int .i64 (((M.trail (S.take k)).2 : Nat) : Int) ∧ ∃ q, wr = w3.drewN q) (fun _ i _ => S.length - (intOf i).toNat)
        case atStart => exact ⟨0, Nat.zero_le _, rfl, rfl, 0, rfl⟩
        case round =>
          obtain ⟨k, hk, rfl, rfl, q, rfl⟩ := hrel
          have hr5 := HR.out k
          have hr6 := HR.out (k + 1)
          by_cases hlt : k < S.length
          · have HT := trail_at S k hlt
            have hk1 : ∀ h, ((strN S)[k]'h).toNat = S[k] := fun h => strN_at S k hlt h HSM.out
            by_cases hk0 : k = 0
            · subst hk0
              rw [if_pos rfl] at HT
              have HT' : Hid ((M.trail (S.take (0 + 1))).2 = 1) := HT
              clear HT hr6
              generalize (M.trail (S.take 0)).2 = rr at *
              go_wp2
              go_quiet (fail)
              go_wp2
              go_roundw
              case rel => exact ⟨0 + 1, by omega, by go_num, by rw [HT'.out]; rfl, _, rfl⟩
              case measure => simp [intOf]; omega
            · obtain ⟨m, rfl⟩ : ∃ m, k = m + 1 := ⟨k - 1, by omega⟩
              rw [if_neg hk0, show m + 1 - 1 = m from rfl, getD_at S m (by omega)] at HT
              have hb1 : ((m : Int) + 1) < (S.length : Int) := by omega
              have hb0 : (m : Int) < (S.length : Int) := by omega
              have hg0 : decide ((0 : Int) < (m : Int) + 1) = true := decide_eq_true (by omega)
              have hk2 : ∀ h, ((strN S)[m]'h).toNat = S[m] := fun h => strN_at S m (by omega) h HSM.out
              by_cases he : S[m + 1] = S[m]
              · rw [if_pos he] at HT
                have HT' : Hid ((M.trail (S.take (m + 1 + 1))).2 = (M.trail (S.take (m + 1))).2 + 1) := HT
                have hq : ((S[m + 1] : Int) == (S[m] : Int)) = true := by simp; omega
                have hr6' : (M.trail (S.take (m + 1))).2 + 1 ≤ 5 := by rw [← HT]; exact hr6
                clear HT he hr6
                generalize S[m + 1] = x1 at *
                generalize S[m] = x0 at *
                generalize (M.trail (S.take (m + 1))).2 = rr at *
                go_wp2
                go_quiet (fail)
                go_wp2
                go_roundw
                case rel => exact ⟨m + 1 + 1, by omega, by go_num, by rw [HT'.out]; go_num, _, rfl⟩
                case measure => simp [intOf]; omega
              · rw [if_neg he] at HT
                have HT' : Hid ((M.trail (S.take (m + 1 + 1))).2 = 1) := HT
                have hq : ((S[m + 1] : Int) == (S[m] : Int)) = false := by simp; omega
                clear HT he hr6
                generalize S[m + 1] = x1 at *
                generalize S[m] = x0 at *
                generalize (M.trail (S.take (m + 1))).2 = rr at *
                go_wp2
                go_quiet (fail)
                go_wp2
                go_roundw
                case rel => exact ⟨m + 1 + 1, by omega, by go_num, by rw [HT'.out]; rfl, _, rfl⟩
                case measure => simp [intOf]; omega
          · go_wp2_with fail
            refine (destuff_any _ _).mono ?_
            rw [HD.out]
            rintro o w5 ⟨rfl, hb5⟩
            have hB5 := hB3.trans (((below_q w3 q).trans hb5).mono hB3.size)
            have htt : (t.toList == t.toList) = true := by simp
            go_wp2
            go_ret
            exact ⟨rfl, hB5⟩
    · have hok' : okT t 2000 = false := by simpa using hok
      have ht0 : t.size ≠ 0 := by
        intro e
        apply hok
        have : t = ⟨#[]⟩ := by
          apply ByteArray.ext
          apply Array.eq_empty_of_size_eq_zero
          exact e
        rw [this]; rfl
      have hc0 : (0 : Int) < (t.size : Int) := by omega
      have HC : Hid (crcZ t = -1) := by simp [crcZ, hok', Hid]
      rw [stuffZ_bad hok']
      clear hok hok'
      go_wp2_with (first | (go_at_call 16; refine (specCrc_any t _ htm).mono ?_; rw [HC.out]; rintro o w4 ⟨rfl, hb4⟩))
      go_ret
      exact ⟨rfl, hB3.trans (hb4.mono hB3.size)⟩
end Go.Proofs.Ytnefmdjodjpopaa
