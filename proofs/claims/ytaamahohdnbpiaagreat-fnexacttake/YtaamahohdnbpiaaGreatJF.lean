import Derived.Test.YtaamahohdnbpiaaGreatJE
import Derived.Test.YtaamahohdnbpiaaGreatSH
namespace Go.Proofs.YtaamahohdnbpiaaGreat
open Go.RowKit
set_option linter.unusedVariables false
open Go.Sort in
/-- a row that was sorted where it lay: the other blocks are as they were -/
theorem sorted_world {w w' : World} {g off : Nat} {d : Array Int} {n : Nat} {os : Array Obj} (hg : g < w.heap.size) (h : w' = grow (putRow (Value.int .i64) (Sort.ahead w n) g off d) os) :
    (∀ b, b ≠ g → b < w.heap.size → w'.heap[b]? = w.heap[b]?) ∧ Below g w w' := by
  subst h
  have key : ∀ b, b ≠ g → b < w.heap.size → (grow (putRow (Value.int .i64) (Sort.ahead w n) g off d) os).heap[b]? = w.heap[b]? := by
    intro b hb hl
    show ((w.heap.modify g _) ++ os)[b]? = _
    rw [Array.getElem?_append_left (by simpa using hl), Array.getElem?_modify, if_neg (fun e => hb e.symm)]
  refine ⟨key, rfl, rfl, rfl, ?_, fun k hk => key k (by omega) (by omega)⟩
  show w.heap.size ≤ ((w.heap.modify g _) ++ os).size
  simp
theorem strict_of_adj (s : List Int) (hs : ∀ i j (hi : i < s.length) (hj : j < s.length), i < j → s[i] ≤ s[j]) (ha : ∀ j (hj : j < s.length), 0 < j → s[j]'hj ≠ s[j - 1]'(by omega)) :
    ∀ j (hj : j < s.length) i (hi : i < s.length), i < j → s[i] < s[j] := by
  intro j
  induction j with
  | zero => intro hj i hi h; exact absurd h (Nat.not_lt_zero _)
  | succ j ih =>
    intro hj i hi h
    have h1 : s[j]'(by omega) ≤ s[j + 1] := hs j (j + 1) (by omega) hj (by omega)
    have h2 := ha (j + 1) hj (by omega)
    have e : s[j + 1 - 1]'(by omega) = s[j]'(by omega) := rfl
    rw [e] at h2
    have h3 : s[j]'(by omega) < s[j + 1] := by omega
    by_cases hij : i = j
    · subst hij; exact h3
    · have := ih (by omega) i hi (by omega)
      omega
theorem compact_nodup (zs : List Int) : ((Lib.compact (zs.mergeSort fun x y => decide (x ≤ y))).length = zs.length) ↔ zs.Nodup := by
  have hp : (zs.mergeSort fun x y => decide (x ≤ y)).Perm zs := List.mergeSort_perm _ _
  have hpw := List.pairwise_mergeSort (le := fun x y : Int => decide (x ≤ y)) (fun a b c h1 h2 => by simp at *; omega) (fun a b => by simp; omega) zs
  generalize (zs.mergeSort fun x y => decide (x ≤ y)) = s at *
  rw [← hp.nodup_iff, ← hp.length_eq]
  have hs : ∀ i j (hi : i < s.length) (hj : j < s.length), i < j → s[i] ≤ s[j] := by
    intro i j hi hj hij
    have := List.pairwise_iff_getElem.1 hpw i j hi hj hij
    simpa using this
  have hget : ∀ j (hj : j < s.length), s.toArray[j]! = s[j] := by
    intro j hj
    rw [getElem!_pos s.toArray j (by simpa using hj)]
    simp
  have hlen : (Lib.compact s).length = ((List.range s.length).filter (Lib.keeps s.toArray)).length := by
    unfold Lib.compact Lib.compactUpTo
    rw [List.length_map]
  rw [hlen]
  have hr : s.length = (List.range s.length).length := by simp
  conv => lhs; rhs; rw [hr]
  rw [List.length_filter_eq_length_iff]
  constructor
  · intro h
    have ha : ∀ j (hj : j < s.length), 0 < j → s[j]'hj ≠ s[j - 1]'(by omega) := by
      intro j hj h0
      have := h j (by simpa using hj)
      unfold Lib.keeps at this
      rw [decide_eq_true_iff] at this
      rcases this with e | e
      · omega
      · rw [hget j hj, hget (j - 1) (by omega)] at e
        exact e
    have hst := strict_of_adj s hs ha
    rw [List.nodup_iff_pairwise_ne, List.pairwise_iff_getElem]
    intro i j hi hj hij
    have := hst j hj i hi hij
    omega
  · intro h j hj
    have hj' : j < s.length := by simpa using hj
    unfold Lib.keeps
    rw [decide_eq_true_iff]
    by_cases h0 : j = 0
    · exact Or.inl h0
    · refine Or.inr ?_
      rw [hget j hj', hget (j - 1) (by omega)]
      intro e
      rw [List.nodup_iff_pairwise_ne, List.pairwise_iff_getElem] at h
      exact h (j - 1) j (by omega) hj' (by omega) e.symm
open Go.Sort in
set_option maxHeartbeats 2000000 in
/-- impl.allDiffer -/
theorem allDiffer_any (w : World) (g cap : Nat) (zs : List Int) (hH : Holds (Value.int .i64) w g 0 zs.toArray) (hg : g < w.heap.size) (hcap : zs.length ≤ cap) (hn : zs.length ≤ 100) :
    Calls Tryz.prog 168 #[.slice (some ⟨g, 0, none⟩) zs.length cap] w fun o w' => retB o zs.Nodup ∧ (∀ b, b ≠ g → b < w.heap.size → w'.heap[b]? = w.heap[b]?) ∧ Below g w w' := by
  have HS : Hid (Calls Tryz.prog 183 #[.slice (some ⟨g, 0, none⟩) zs.length cap] w fun e w' => e = .returned (.tuple #[]) ∧ Holds (Value.int .i64) w' g 0 (zs.mergeSort fun x y => decide (x ≤ y)).toArray ∧ (∀ b, b ≠ g → b < w.heap.size → w'.heap[b]? = w.heap[b]?) ∧ Below g w w') := by
    refine (Go.Proofs.Tryz.slices_Sort_int g 0 cap zs w hH hg (by omega)).mono ?_
    rintro e w' ⟨rfl, n, os, e1⟩
    have hsw := sorted_world hg e1
    refine ⟨rfl, ?_, hsw.1, hsw.2⟩
    subst e1
    have h1 := holds_putRow (Value.int .i64) (Sort.ahead w n) g 0 zs.toArray (zs.mergeSort fun x y => decide (x ≤ y)).toArray (holds_ahead _ _ _ _ _ _ hH) (by simp)
    intro j hj
    have h2 := h1 j hj
    rw [cell?_grow _ _ _ (by simpa using hg), frozen?_grow _ _ _ (by simpa using hg)]
    exact h2
  have HC : Hid (∀ W, Holds (Value.int .i64) W g 0 (zs.mergeSort fun x y => decide (x ≤ y)).toArray → g < W.heap.size → Calls Tryz.prog 184 #[.slice (some ⟨g, 0, none⟩) zs.length cap] W fun e w' => (∃ m : Nat, e = .returned (.slice (some ⟨g, 0, none⟩) m cap) ∧ (m = zs.length ↔ zs.Nodup)) ∧ (∀ b, b ≠ g → b < W.heap.size → w'.heap[b]? = W.heap[b]?) ∧ Below g W w') := by
    intro W hW hgW
    have hl : (zs.mergeSort fun x y => decide (x ≤ y)).length = zs.length := List.length_mergeSort _
    have h1 := Go.Proofs.Tryz.slices_Compact_int g 0 cap (zs.mergeSort fun x y => decide (x ≤ y)) W hW (by omega) (by omega)
    rw [hl] at h1
    refine h1.mono ?_
    rintro e w' ⟨rfl, q, e1⟩
    have e1' : w' = grow (putRow (Value.int .i64) (Sort.ahead W q) g 0 (Lib.compact (zs.mergeSort fun x y => decide (x ≤ y)) ++ List.replicate (zs.length - (Lib.compact (zs.mergeSort fun x y => decide (x ≤ y))).length) 0).toArray) #[] := by rw [grow_empty]; exact e1
    have hsw := sorted_world hgW e1'
    exact ⟨⟨_, rfl, compact_nodup zs⟩, hsw.1, hsw.2⟩
  have HN : Hid (zs.length ≤ 100) := hn
  have HG : Hid (g < w.heap.size) := hg
  clear hH hcap hn hg
  generalize zs.length = n at *
  go_enter Tryz.func168, Tryz.ntmps168
  go_wp2_with fail
  refine HS.out.mono ?_
  rintro o w1 ⟨rfl, h1, h2, h3⟩
  have H1 : Hid (Holds (Value.int .i64) w1 g 0 (zs.mergeSort fun x y => decide (x ≤ y)).toArray ∧ (∀ b, b ≠ g → b < w.heap.size → w1.heap[b]? = w.heap[b]?) ∧ Below g w w1) := ⟨h1, h2, h3⟩
  clear h1 h2 h3
  go_wp2_with fail
  refine (HC.out w1 H1.out.1 (Nat.lt_of_lt_of_le HG.out H1.out.2.2.size)).mono ?_
  rintro o w2 ⟨⟨m, rfl, hm⟩, h2, h3⟩
  have H2 : Hid ((m = n ↔ zs.Nodup) ∧ (∀ b, b ≠ g → b < w.heap.size → w2.heap[b]? = w.heap[b]?) ∧ Below g w w2) := ⟨hm, fun b hb hl => (h2 b hb (Nat.lt_of_lt_of_le hl H1.out.2.2.size)).trans (H1.out.2.1 b hb hl), H1.out.2.2.trans h3⟩
  clear h2 h3 hm
  go_wp2_with fail
  go_ret
  refine ⟨⟨_, rfl, ?_⟩, H2.out.2⟩
  rw [← H2.out.1]
  simp
  try omega
/-- the same at nil -/
theorem allDiffer_nil (w : World) : Calls Tryz.prog 168 #[.slice none 0 0] w fun o w' => o = .returned (.bool true) ∧ w' = w := by
  have HS : Hid (∀ W, Calls Tryz.prog 183 #[.slice none 0 0] W fun e w' => e = .returned (.tuple #[]) ∧ w' = W) := fun W => Go.Proofs.Tryz.slices_Sort_int_none none 0 W
  have HC : Hid (∀ W, Calls Tryz.prog 184 #[.slice none 0 0] W fun e w' => e = .returned (.slice none 0 0) ∧ w' = W) := fun W => Go.Proofs.Tryz.slices_Compact_int_empty none 0 W
  go_enter Tryz.func168, Tryz.ntmps168
  go_wp2_with (first
    | (go_at_call 183; refine (HS.out _).mono ?_; rintro o w1 ⟨rfl, rfl⟩)
    | (go_at_call 184; refine (HC.out _).mono ?_; rintro o w1 ⟨rfl, rfl⟩))
  go_ret
  exact ⟨rfl, rfl⟩
end Go.Proofs.YtaamahohdnbpiaaGreat
