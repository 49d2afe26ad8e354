import Derived.Test.YtfbeaekddgpmmaaGreatDoorK36
import Derived.Lib.SplitLaws
namespace Go.Proofs.YtfbeaekddgpmmaaGreatDoor
open Go.RowKit
set_option linter.unusedVariables false
theorem cutA_cur (c : UInt8) : ∀ (l cur : List UInt8), ∃ h t, cutA c [] l = h :: t ∧ cutA c cur l = (cur ++ h) :: t
  | [], cur => ⟨[], [], rfl, by simp [cutA]⟩
  | x :: l, cur => by
    by_cases hx : x = c
    · exact ⟨[], cutA c [] l, by simp [cutA, hx], by simp [cutA, hx]⟩
    · obtain ⟨h, t, e1, e2⟩ := cutA_cur c l [x]
      obtain ⟨h', t', e3, e4⟩ := cutA_cur c l (cur ++ [x])
      rw [e1] at e3
      obtain ⟨rfl, rfl⟩ := List.cons.inj e3
      refine ⟨[x] ++ h, t, ?_, ?_⟩
      · simp only [cutA, hx, if_false, List.nil_append]; exact e2
      · simp only [cutA, hx, if_false]; rw [e4]; simp
theorem split_cut (c : UInt8) : ∀ (l : List UInt8), Lib.splitK [c] 0 (Lib.count l [c]) l = cutA c [] l
  | [] => by
    have : Lib.count [] [c] = 0 := by rw [Lib.count_one]; rfl
    rw [this]; rfl
  | b :: l => by
    have ih := split_cut c l
    by_cases hb : b = c
    · subst hb
      rw [Lib.count_cons_eq, Nat.add_comm]
      have hi : Lib.index (b :: l) [b] = 0 := by rw [Lib.index_one]; simp [Lib.indexByte]
      simp only [Lib.splitK, hi, cutA, if_true]
      rw [← ih]
      simp
    · rw [Lib.count_cons_ne b c l hb]
      obtain ⟨h, t, e1, e2⟩ := cutA_cur c l [b]
      have e3 : cutA c [] (b :: l) = (b :: h) :: t := by simp only [cutA, hb, if_false, List.nil_append]; rw [e2]; rfl
      rw [e3]
      rw [e1] at ih
      have hi : Lib.index (b :: l) [c] = if Lib.index l [c] == -1 then -1 else Lib.index l [c] + 1 := by
        rw [Lib.index_one, Lib.index_one]
        simp [Lib.indexByte, hb]
      cases hk : Lib.count l [c] with
      | zero =>
        rw [hk] at ih
        simp only [Lib.splitK] at ih ⊢
        obtain ⟨rfl, rfl⟩ := List.cons.inj ih
        rfl
      | succ k =>
        rw [hk] at ih
        simp only [Lib.splitK] at ih ⊢
        have hge := Lib.index_ge l [c]
        by_cases hm : Lib.index l [c] = -1
        · have := Lib.count_miss hm
          omega
        · have hne : (Lib.index l [c] == -1) = false := by simpa using hm
          rw [hne] at ih hi
          simp only [Bool.false_eq_true, if_false] at ih hi
          have hne2 : (Lib.index (b :: l) [c] == -1) = false := by rw [hi]; simp; omega
          rw [hne2]
          simp only [Bool.false_eq_true, if_false]
          have ht : (Lib.index (b :: l) [c]).toNat = (Lib.index l [c]).toNat + 1 := by rw [hi]; omega
          rw [ht]
          obtain ⟨f1, f2⟩ := List.cons.inj ih
          rw [← f1, ← f2]
          simp
theorem split_lines (c : UInt8) (s : ByteArray) : (Lib.splitB ⟨#[c]⟩ 0 (Lib.countB s ⟨#[c]⟩) s).map Value.string = sv (cutB c s) := by
  have h := Lib.splitB_data ⟨#[c]⟩ 0 (Lib.countB s ⟨#[c]⟩) s
  have h2 := split_cut c s.data.toList
  have e : (Lib.splitB ⟨#[c]⟩ 0 (Lib.countB s ⟨#[c]⟩) s).map (·.data.toList) = cutB c s := h.trans h2
  unfold sv
  rw [← e, List.map_map]
  apply List.map_congr_left
  intro x _
  simp
theorem cut_count (c : UInt8) (s : ByteArray) : Lib.countB s ⟨#[c]⟩ + 1 = (cutB c s).length := by
  have h := Lib.splitB_all ⟨#[c]⟩ (Nat.le_refl 1) 0 _ s rfl
  have e := congrArg List.length (split_lines c s)
  rw [List.length_map] at e
  simp only [sv, List.length_map] at e
  omega
/-- strings.Split at one letter; bytealg.MaxLen holds a number -/
theorem split_call (c : UInt8) (s : ByteArray) (hs : s.size ≤ 20000) (m : Int) (w : World) (hm : w.cell? ⟨3, 0, none⟩ = some (.int .i64 m)) :
    Calls Tryz.prog 31 #[.string s, .string ⟨#[c]⟩] w fun o w' => o = .returned (.slice (some ⟨w.heap.size, 0, none⟩) (cutB c s).length (cutB c s).length) ∧ w' = w.alloc (.cells (sv (cutB c s)).toArray 9) := by
  have := Tryz.strings_Split s ⟨#[c]⟩ m w (by omega) hm (Nat.le_refl 1)
  rw [cut_count, split_lines] at this
  exact this
/-- strings.Fields of a line -/
theorem fields_call (s : ByteArray) (hs : s.size ≤ 20000) (hl : ∀ b ∈ s.data.toList, 32 ≤ b.toNat ∧ b.toNat < 128) (w : World) (ht : Lib.TabIs Tryz.prog w "strings.asciiSpace" .u8 Lib.asciiSpaceTab) :
    Calls Tryz.prog 33 #[.string s] w fun o w' => o = .returned (.slice (some ⟨w.heap.size, 0, none⟩) (wordsB s).length (wordsB s).length) ∧ w' = w.alloc (.cells (sv (wordsB s)).toArray 9) := by
  have := Tryz.strings_Fields s w (by omega) (fun j b hj => (hl b (List.mem_of_getElem? hj)).2) ht
  rw [fields_words s (fun b hb => (hl b hb).1)] at this
  exact this
end Go.Proofs.YtfbeaekddgpmmaaGreatDoor
