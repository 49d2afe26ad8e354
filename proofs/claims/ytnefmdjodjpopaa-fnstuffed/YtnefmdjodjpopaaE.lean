import Derived.Test.YtnefmdjodjpopaaD
import Derived.Test.YtnefmdjodjpopaaN
import Derived.Lib.OthersKept
import Derived.Laws.IdiomStrings
namespace Go.Proofs.Ytnefmdjodjpopaa
open Go.RowKit

theorem ret_str {a b : ByteArray} (h : a = b) : Ending.returned (.string a) = .returned (.string b) := by rw [h]
/-- the letters of a text, as numbers -/
def lt (s : ByteArray) : List Nat := s.data.toList.map UInt8.toNat
/-- the text of letters -/
def strN (l : List Nat) : ByteArray := ⟨(l.map UInt8.ofNat).toArray⟩
theorem lt_length (s : ByteArray) : (lt s).length = s.size := by simp [lt]
theorem lt_snoc (s : ByteArray) (k : Nat) (h : k < s.size) : (lt s).take (k + 1) = (lt s).take k ++ [s[k].toNat] := by
  unfold lt; rw [← List.map_take, take_snoc s k h]; simp [List.map_take]
theorem lt_isL {s : ByteArray} {m : Int} (h : okT s m = true) : ∀ x ∈ lt s, M.isL x := by
  intro x hx
  unfold okT at h; rw [Bool.and_eq_true] at h
  unfold lt at hx
  rw [List.mem_map] at hx
  obtain ⟨c, hc, rfl⟩ := hx
  exact okC_val (List.all_eq_true.1 h.2 c hc)
theorem isL_lt {l : List Nat} (h : ∀ x ∈ l, M.isL x) : ∀ x ∈ l, x < 256 := by
  intro x hx
  rcases h x hx with rfl | rfl <;> decide
theorem strN_lt (s : ByteArray) : strN (lt s) = s := by
  unfold strN lt
  rw [List.map_map]
  have : (UInt8.ofNat ∘ UInt8.toNat) = id := by funext c; simp
  rw [this]; simp

theorem conv_own {w : World} {B : Nat} {v : Value} {l : List Nat} (h : ownsB w B v l) (hl : ∀ x ∈ l, x < 256) : (convert 28 9 v).run Try.prog w = .ok (.string (strN l)) w := by
  have h' := h
  obtain ⟨_, ⟨rfl, h1⟩ | ⟨g, cap, cur, rfl, hb, hh, hc, hm, hsz, htk⟩⟩ := h
  · have : l = [] := List.length_eq_zero_iff.1 h1
    subst this
    rw [run_convert_bytes_string w 28 9 5 none 0 0 Try.underlying28 Try.underlying5 Try.underlying9]
    rfl
  · have := run_convert_bytes_back (P := Try.prog) w 28 9 5 ⟨g, 0, none⟩ cap (l.map UInt8.ofNat) Try.underlying28 Try.underlying5 Try.underlying9 (by
      intro j hj
      have hj' : j < l.length := by simpa using hj
      have hc := World.ownsRow.cellAt h' j (by omega)
      rw [bv_at l j hj'] at hc
      have hx := hl l[j] (List.getElem_mem hj')
      have e : (UInt8.ofNat l[j]).toNat = l[j] := by simp; omega
      have e2 : (⟨g, 0, none⟩ : Addr).add j = ⟨g, j, none⟩ := by simp only [Addr.add]; split <;> simp_all
      rw [e2, List.getElem_map, e]
      exact hc)
    rw [List.length_map] at this
    exact this

theorem getD_snoc_lt (l : List Nat) (a j : Nat) (h : j < l.length) : (l ++ [a]).getD j 0 = l.getD j 0 := by simp [List.getD, List.getElem?_append_left h]
theorem getD_snoc_eq (l : List Nat) (a j : Nat) (h : j = l.length) : (l ++ [a]).getD j 0 = a := by subst h; simp [List.getD]
theorem due_trail (l : List Nat) : dueF (fun t => l.getD t 0) l.length = decide (5 ≤ (M.trail l).2) := by
  by_cases h5 : 5 ≤ l.length
  · have ne : ∀ l : List Nat, 1 ≤ l.length → l ≠ [] := by intro l h e; simp [e] at h
    obtain ⟨l1, e, rfl⟩ := M.snoc_cases l (ne _ (by omega))
    simp only [List.length_append, List.length_singleton] at h5
    obtain ⟨l2, d, rfl⟩ := M.snoc_cases l1 (ne _ (by omega))
    simp only [List.length_append, List.length_singleton] at h5
    obtain ⟨l3, c, rfl⟩ := M.snoc_cases l2 (ne _ (by omega))
    simp only [List.length_append, List.length_singleton] at h5
    obtain ⟨l4, b, rfl⟩ := M.snoc_cases l3 (ne _ (by omega))
    simp only [List.length_append, List.length_singleton] at h5
    obtain ⟨l5, a, rfl⟩ := M.snoc_cases l4 (ne _ (by omega))
    rw [Bool.eq_iff_iff, decide_eq_true_iff, M.trail5]
    simp only [dueF, List.length_append, List.length_singleton]
    have g1 : (l5 ++ [a] ++ [b] ++ [c] ++ [d] ++ [e]).getD (l5.length + 1 + 1 + 1 + 1 + 1 - 1) 0 = e := getD_snoc_eq _ _ _ (by simp)
    have g2 : (l5 ++ [a] ++ [b] ++ [c] ++ [d] ++ [e]).getD (l5.length + 1 + 1 + 1 + 1 + 1 - 2) 0 = d := by
      rw [getD_snoc_lt _ _ _ (by simp)]; exact getD_snoc_eq _ _ _ (by simp)
    have g3 : (l5 ++ [a] ++ [b] ++ [c] ++ [d] ++ [e]).getD (l5.length + 1 + 1 + 1 + 1 + 1 - 3) 0 = c := by
      rw [getD_snoc_lt _ _ _ (by simp), getD_snoc_lt _ _ _ (by simp)]; exact getD_snoc_eq _ _ _ (by simp)
    have g4 : (l5 ++ [a] ++ [b] ++ [c] ++ [d] ++ [e]).getD (l5.length + 1 + 1 + 1 + 1 + 1 - 4) 0 = b := by
      rw [getD_snoc_lt _ _ _ (by simp), getD_snoc_lt _ _ _ (by simp), getD_snoc_lt _ _ _ (by simp)]; exact getD_snoc_eq _ _ _ (by simp)
    have g5 : (l5 ++ [a] ++ [b] ++ [c] ++ [d] ++ [e]).getD (l5.length + 1 + 1 + 1 + 1 + 1 - 5) 0 = a := by
      rw [getD_snoc_lt _ _ _ (by simp), getD_snoc_lt _ _ _ (by simp), getD_snoc_lt _ _ _ (by simp), getD_snoc_lt _ _ _ (by simp)]; exact getD_snoc_eq _ _ _ (by simp)
    rw [g1, g2, g3, g4, g5]
    simp [and_assoc]
  · have := M.trail_le l
    rw [Bool.eq_iff_iff, decide_eq_true_iff]
    simp [dueF]; omega

theorem other_any (c : Nat) (w : World) (h : M.isL c) :
    Calls Try.prog 54 #[.int .u8 c] w fun e w' => e = .returned (.int .u8 ((97 - c : Nat) : Int)) ∧ w = w' := by
  rcases h with rfl | rfl
  · go_enter Try.func54, Try.ntmps54
    go_wp2
    go_ret
    exact ⟨rfl, rfl⟩
  · go_enter Try.func54, Try.ntmps54
    go_wp2
    go_ret
    exact ⟨rfl, rfl⟩

theorem ownsB.drewN {w : World} {B : Nat} {v : Value} {l : List Nat} (h : ownsB w B v l) (q : Nat) : ownsB (w.drewN q) B v l := by
  induction q generalizing w with
  | zero => exact h
  | succ q ih => exact ih (World.ownsRow.drew h)
/-- what Stuff answers -/
def stuffZ (s : ByteArray) : ByteArray := if okT s 2000 = true then strN (M.stuffL (lt s)) else ⟨#[]⟩
theorem stStep_due {l : List Nat} {c : Nat} (hr : (M.trail l).2 ≤ 4) : decide (5 ≤ (M.trail (l ++ [c])).2) = decide ((M.trail (l ++ [c])).2 = 5) := by
  have := M.hear_le (M.trail l) c
  rw [M.trail_snoc]
  rw [Bool.eq_iff_iff]; simp; omega

set_option maxHeartbeats 1000000 in
theorem specStuff_ok (s : ByteArray) (w : World) (hs : s.size ≤ maxLen) (hk : okT s 2000 = true) :
    Calls Try.prog 20 #[.string s] w fun e w' => e = .returned (.string (stuffZ s)) ∧ Below w.heap.size w w' := by
    have hsz := okT_size hk
    go_enter Try.func20, Try.ntmps20
    go_wp2_with (go_at_call 48; refine (okBits_any _ _ _ hs).mono ?_; rintro e w1 ⟨rfl, rfl⟩)
    have HK : Hid (okT s 2000 = true) := hk
    clear hk
    go_loopw [3, 4] (fun v i wr => ∃ k : Nat, k ≤ s.size ∧ i = .int .i64 k ∧ ownsB wr w.heap.size v (M.stuffL ((lt s).take k)) ∧ Below w.heap.size w wr ∧ w.heap.size ≤ wr.heap.size) (fun _ i _ => s.size - (intOf i).toNat)
    case atStart => exact ⟨0, Nat.zero_le _, rfl, own_nil _ _ (Nat.le_refl _), (Below.refl _ _).alloc (Nat.le_refl _) _, by simp⟩
    case round =>
      obtain ⟨k, hk, rfl, hown, hbel, hz⟩ := hrel
      by_cases hlt : k < s.size
      · have hv : M.isL s[k].toNat := okT_at HK.out k hlt
        have hL : ∀ x ∈ (lt s).take k, M.isL x := fun x hx => lt_isL HK.out x (List.mem_of_mem_take hx)
        have hrun := M.stuff_run _ hL
        have hll : (M.stuffL ((lt s).take k)).length ≤ 4000 := by
          have := M.stuff_len ((lt s).take k)
          rw [List.length_take, lt_length] at this
          omega
        have HS : Hid (M.stuffL ((lt s).take (k + 1)) = M.stStep (M.stuffL ((lt s).take k)) s[k].toNat) := by rw [lt_snoc s k hlt, M.stuffL_snoc]; exact rfl
        clear hL
        generalize M.stuffL ((lt s).take k) = l at *
        go_wp2_with (at_builtin; refine app_byte w wr rfl (.tmp 15) (.tmp 19) rfl w.heap.size _ l s[k].toNat _ rfl rfl hown rfl (by omega) hz hbel ?_)
        intro v1 w1 hown1 hbel1 hz1
        clear hown hbel hz
        obtain ⟨g, cap, hv1, hgB, hgz, hcap, hcm, hrow⟩ := hown1.open (by simp)
        subst hv1
        have hdt := due_trail (l ++ [s[k].toNat])
        rw [stStep_due hrun] at hdt
        have hle : (l ++ [s[k].toNat]).length ≤ 4001 := by simp; omega
        unfold M.stStep at HS
        generalize hl1 : l ++ [s[k].toNat] = l1 at *
        have HD : Hid (dueF (fun t => l1.getD t 0) l1.length = decide ((M.trail l1).2 = 5)) := hdt
        clear hdt hl1
        by_cases h5 : (M.trail l1).2 = 5
        · rw [if_pos h5] at HS
          have HD' : Hid (dueF (fun t => l1.getD t 0) l1.length = true) := by rw [HD.out, h5]; exact rfl
          clear HD h5 hrun
          go_wp2_with (go_at_call 51; refine (due_any _ g l1.length cap l1.length _ hrow (Nat.le_refl _) (by omega)).mono ?_; rw [HD'.out]; rintro e w2 ⟨rfl, q, rfl⟩)
          have hown2 := hown1.drewN q
          have hbel2 := below_drewN hbel1 q
          have hz2 : w.heap.size ≤ (w1.drewN q).heap.size := by simpa using hz1
          refine (other_any _ _ hv).mono ?_
          rintro e w2 ⟨rfl, rfl⟩
          clear hown1 hbel1 hz1 hrow
          go_wp2_with (at_builtin; refine app_byte w (w1.drewN q) rfl (.tmp 25) (.tmp 30) rfl w.heap.size _ l1 (97 - s[k].toNat) _ rfl rfl hown2 rfl (by omega) hz2 hbel2 ?_)
          intro v3 w3 hown3 hbel3 hz3
          clear hown2 hbel2 hz2
          go_wp2
          go_roundw
          case rel => exact ⟨k + 1, by omega, by go_num, by rw [HS.out]; exact hown3, hbel3, hz3⟩
          case measure => simp [intOf]; omega
        · rw [if_neg h5] at HS
          have HD' : Hid (dueF (fun t => l1.getD t 0) l1.length = false) := by rw [HD.out]; exact decide_eq_false h5
          clear HD h5 hrun
          go_wp2_with (go_at_call 51; refine (due_any _ g l1.length cap l1.length _ hrow (Nat.le_refl _) (by omega)).mono ?_; rw [HD'.out]; rintro e w2 ⟨rfl, q, rfl⟩)
          go_roundw
          case rel => exact ⟨k + 1, by omega, by go_num, by rw [HS.out]; exact hown1.drewN q, below_drewN hbel1 q, by simpa using hz1⟩
          case measure => simp [intOf]; omega
      · have hke : (lt s).take k = lt s := List.take_of_length_le (by rw [lt_length]; omega)
        rw [hke] at hown
        have hcv := conv_own hown (isL_lt (M.stuff_all _ (lt_isL HK.out)))
        have HZ : Hid (stuffZ s = strN (M.stuffL (lt s))) := by simp [stuffZ, HK.out, Hid]
        generalize M.stuffL (lt s) = l at *
        clear hke
        go_wp2
        go_ret
        exact ⟨ret_str HZ.out.symm, hbel⟩

theorem specStuff_any (s : ByteArray) (w : World) (hs : s.size ≤ maxLen) :
    Calls Try.prog 20 #[.string s] w fun e w' => e = .returned (.string (stuffZ s)) ∧ Below w.heap.size w w' := by
  by_cases hk : okT s 2000 = true
  · exact specStuff_ok s w hs hk
  · have hk' : okT s 2000 = false := by simpa using hk
    have HZ : Hid (stuffZ s = ⟨#[]⟩) := by simp [stuffZ, hk', Hid]
    clear hk
    go_enter Try.func20, Try.ntmps20
    go_wp2_with (go_at_call 48; refine (okBits_any _ _ _ hs).mono ?_; rintro e w1 ⟨rfl, rfl⟩)
    go_ret
    exact ⟨ret_str HZ.out.symm, Below.refl _ _⟩
end Go.Proofs.Ytnefmdjodjpopaa
