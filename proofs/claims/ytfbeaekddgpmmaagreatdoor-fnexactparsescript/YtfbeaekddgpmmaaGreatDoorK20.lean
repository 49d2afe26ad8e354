import Derived.Test.YtfbeaekddgpmmaaGreatDoorK19
import Derived.Test.YtfbeaekddgpmmaaGreatDoorK11
namespace Go.Proofs.YtfbeaekddgpmmaaGreatDoor
open Go.RowKit
set_option linter.unusedVariables false
/-- which of two words it is -/
def choice (s : ByteArray) (a b : List UInt8) : Int := if (s.toList == a) = true then 0 else if (s.toList == b) = true then 1 else -1
theorem toList_mk (a : List UInt8) : (⟨a.toArray⟩ : ByteArray).toList = a := by rw [ByteArray.toList_eq]
set_option maxHeartbeats 1000000 in
/-- slices.Index of two words -/
theorem index2 (s : ByteArray) (a b : List UInt8) (g : Nat) (w : World) (h0 : w.cell? ⟨g, 0, none⟩ = some (.string ⟨a.toArray⟩)) (h1 : w.cell? ⟨g, 1, none⟩ = some (.string ⟨b.toArray⟩)) :
    Calls Tryz.prog 93 #[.slice (some ⟨g, 0, none⟩) 2 2, .string s] w fun o w' => o = .returned (.int .i64 (choice s a b)) ∧ w = w' := by
  have HC : Hid (choice s a b = if (s.toList == a) = true then 0 else if (s.toList == b) = true then 1 else -1) := rfl
  generalize choice s a b = C at *
  go_enter Tryz.func93, Tryz.ntmps93
  go_wp2
  go_loop [8] (fun i => i = .int .i64 0 ∨ (i = .int .i64 1 ∧ (s.toList == a) = false) ∨ (i = .int .i64 2 ∧ (s.toList == a) = false ∧ (s.toList == b) = false)) (fun i => 2 - (intOf i).toNat)
  case atStart => exact .inl rfl
  case round =>
    rcases hrel with rfl | ⟨rfl, ha⟩ | ⟨rfl, ha, hb⟩
    · cases ha : (s.toList == a)
      · go_wp2
        go_round
        case rel => exact .inr (.inl ⟨rfl, by first | trivial | exact ha⟩)
        case measure => simp [intOf]
      · have HZ : Hid (C = 0) := by unfold Hid; rw [HC.out, ha]; rfl
        go_wp2
        go_ret
        exact ⟨ret_int HZ.out.symm, rfl⟩
    · cases hb : (s.toList == b)
      · go_wp2
        go_round
        case rel => exact .inr (.inr ⟨rfl, by first | trivial | exact ha, by first | trivial | exact hb⟩)
        case measure => simp [intOf]
      · have HZ : Hid (C = 1) := by unfold Hid; rw [HC.out, ha, hb]; rfl
        go_wp2
        go_ret
        exact ⟨ret_int HZ.out.symm, rfl⟩
    · have HZ : Hid (C = -1) := by unfold Hid; rw [HC.out, ha, hb]; rfl
      go_wp2
      go_ret
      exact ⟨ret_int HZ.out.symm, rfl⟩
/-- a value as the program holds it -/
abbrev vlV (n h : Int) (v : Value) : Value := .agg #[.int .i64 n, .int .u32 h, v]
theorem dgN_lt (l : List Nat) (base most : Nat) (hb : 1 ≤ base) : dgN l base most < base ^ most := by
  unfold dgN
  have hp : 0 < base ^ most := Nat.pow_pos hb
  split
  · rename_i h
    unfold dgB at h
    rw [Bool.and_eq_true, decide_eq_true_eq] at h
    have h1 := valN_lt l base (fun c hc => by have := List.all_eq_true.1 h.2 c hc; simpa using this)
    exact Nat.lt_of_lt_of_le h1 (Nat.pow_le_pow_right hb h.1)
  · exact hp
theorem vl_cells {w w1 : World} (b1 : Below (w.alloc (.cells #[.int .i64 0, .int .u32 0, .slice none 0 0] 132)).heap.size (w.alloc (.cells #[.int .i64 0, .int .u32 0, .slice none 0 0] 132)) w1) :
    w1.cell? ⟨w.heap.size, 0, none⟩ = some (.int .i64 0) ∧ w1.cell? ⟨w.heap.size, 1, none⟩ = some (.int .u32 0) ∧ w1.cell? ⟨w.heap.size, 2, none⟩ = some (.slice none 0 0) ∧ w1.frozen? ⟨w.heap.size, 0, none⟩ = false ∧ w1.frozen? ⟨w.heap.size, 1, none⟩ = false ∧ w1.frozen? ⟨w.heap.size, 2, none⟩ = false ∧ Below w.heap.size w w1 := by
  have hb : Kd.blk w1 w.heap.size [.int .i64 0, .int .u32 0, .slice none 0 0] 132 := (Kd.blk.new w [.int .i64 0, .int .u32 0, .slice none 0 0] 132).below b1
  exact ⟨hb.cell 0 _ rfl, hb.cell 1 _ rfl, hb.cell 2 _ rfl, hb.free 0, hb.free 1, hb.free 2, ((Below.refl w.heap.size w).alloc (Nat.le_refl _) _).trans (b1.mono (by simp))⟩
set_option maxHeartbeats 2000000 in
set_option maxRecDepth 20000 in
theorem valueOf_n (s : ByteArray) (hA : ∀ k (h : k < s.size), s[k].toNat < 128) (w : World) :
    Calls Tryz.prog 79 #[.int .i32 110, .string s] w fun o w' => o = .returned (.tuple #[vlV (dgN (lt s) 10 6 : Int) 0 (.slice none 0 0), .bool (dgB (lt s) 10 6)]) ∧ Below w.heap.size w w' := by
  have HX : Hid (∀ w, Calls Tryz.prog 91 #[.string s, .int .u32 10, .int .i64 6] w fun o w' => o = .returned (.tuple #[.int .u32 (dgN (lt s) 10 6 : Int), .bool (dgB (lt s) 10 6)]) ∧ Below w.heap.size w w') := fun w => digits_any 10 (.inl rfl) 6 (by decide) s hA w
  have hN : dgN (lt s) 10 6 < 1000000 := dgN_lt (lt s) 10 6 (by decide)
  clear hA
  generalize dgN (lt s) 10 6 = N at *
  generalize dgB (lt s) 10 6 = B at *
  go_enter Tryz.func79, Tryz.ntmps79
  go_wp2_with (first | (go_at_call 91; refine (HX.out _).mono ?_; rintro o w1 ⟨rfl, b1⟩; obtain ⟨c0, c1, c2, f0, f1, f2, hB⟩ := vl_cells b1; have HB := hidYY hB; clear b1 hB))
  refine bodyPost_ret (v := .tuple #[vlV (N : Int) 0 (.slice none 0 0), .bool B]) (by simp [results, Tryz.results79, go_sem, c0, c1, c2]) rfl ?_
  exact ⟨rfl, ((HB.out.setCell (p := ⟨_, 0, none⟩) (by exact Nat.le_refl _) _).setCell (p := ⟨_, 1, none⟩) (by exact Nat.le_refl _) _).setCell (p := ⟨_, 2, none⟩) (by exact Nat.le_refl _) _⟩
set_option maxHeartbeats 2000000 in
set_option maxRecDepth 20000 in
theorem valueOf_h (s : ByteArray) (hA : ∀ k (h : k < s.size), s[k].toNat < 128) (w : World) :
    Calls Tryz.prog 79 #[.int .i32 104, .string s] w fun o w' => o = .returned (.tuple #[vlV 0 (dgN (lt s) 16 8 : Int) (.slice none 0 0), .bool (dgB (lt s) 16 8)]) ∧ Below w.heap.size w w' := by
  have HX : Hid (∀ w, Calls Tryz.prog 91 #[.string s, .int .u32 16, .int .i64 8] w fun o w' => o = .returned (.tuple #[.int .u32 (dgN (lt s) 16 8 : Int), .bool (dgB (lt s) 16 8)]) ∧ Below w.heap.size w w') := fun w => digits_any 16 (.inr rfl) 8 (by decide) s hA w
  clear hA
  generalize dgN (lt s) 16 8 = N at *
  generalize dgB (lt s) 16 8 = B at *
  go_enter Tryz.func79, Tryz.ntmps79
  go_wp2_with (first | (go_at_call 91; refine (HX.out _).mono ?_; rintro o w1 ⟨rfl, b1⟩; obtain ⟨c0, c1, c2, f0, f1, f2, hB⟩ := vl_cells b1; have HB := hidYY hB; clear b1 hB))
  refine bodyPost_ret (v := .tuple #[vlV 0 (N : Int) (.slice none 0 0), .bool B]) (by simp [results, Tryz.results79, go_sem, c0, c1, c2]) rfl ?_
  exact ⟨rfl, ((HB.out.setCell (p := ⟨_, 0, none⟩) (by exact Nat.le_refl _) _).setCell (p := ⟨_, 1, none⟩) (by exact Nat.le_refl _) _).setCell (p := ⟨_, 2, none⟩) (by exact Nat.le_refl _) _⟩
set_option maxHeartbeats 2000000 in
set_option maxRecDepth 20000 in
theorem valueOf_d (s : ByteArray) (hs1 : 1 ≤ s.size) (hs : s.size ≤ 20000) (hA : ∀ k (h : k < s.size), s[k].toNat < 128) (w : World) :
    Calls Tryz.prog 79 #[.int .i32 100, .string s] w fun o w' => ∃ ao n cp, o = .returned (.tuple #[vlV 0 0 (.slice ao n cp), .bool (formB 100 s)]) ∧ (formB 100 s = true → ownsB w' (w.heap.size + 1) (.slice ao n cp) (datL s)) ∧ Below w.heap.size w w' := by
  have HX := hidYY (fun w => dataOf_any s hs1 hs hA w)
  clear hA
  have HZ : Hid ((w.alloc (.cells #[.int .i64 0, .int .u32 0, .slice none 0 0] 132)).heap.size = w.heap.size + 1) := by unfold Hid; simp
  generalize formB 100 s = B at *
  generalize datL s = D at *
  go_enter Tryz.func79, Tryz.ntmps79
  go_wp2_with (first | (go_at_call 92; refine (HX.out _).mono ?_; rintro o w1 ⟨ao, nn, cp, rfl, ho, b1⟩; obtain ⟨c0, c1, c2, f0, f1, f2, hB⟩ := vl_cells b1; have HB := hidYY hB; have HO := hidYY ho; clear b1 hB ho))
  refine bodyPost_ret (v := .tuple #[vlV 0 0 (.slice ao nn cp), .bool B]) (by simp [results, Tryz.results79, go_sem, c0, c1, c2]) rfl ?_
  refine ⟨ao, nn, cp, rfl, fun h => ?_, ((HB.out.setCell (p := ⟨_, 0, none⟩) (by exact Nat.le_refl _) _).setCell (p := ⟨_, 1, none⟩) (by exact Nat.le_refl _) _).setCell (p := ⟨_, 2, none⟩) (by exact Nat.le_refl _) _⟩
  have ho := HO.out h
  rw [HZ.out] at ho
  exact ho.otherBlock fun g hg => by
    have hge := (World.ownsRow.lt ho g hg).1
    rw [heap_setCell_other _ _ g _ (by show g ≠ w.heap.size; omega), heap_setCell_other _ _ g _ (by show g ≠ w.heap.size; omega), heap_setCell_other _ _ g _ (by show g ≠ w.heap.size; omega)]
theorem choices_k (w : World) : Calls Tryz.prog 94 #[.int .i32 107] w fun o w' => o = .returned (.slice (some ⟨w.heap.size, 0, none⟩) 2 2) ∧ w' = w.alloc (.cells #[.string ⟨wRef.toArray⟩, .string ⟨wOpt.toArray⟩] 9) := by
  go_enter Tryz.func94, Tryz.ntmps94
  go_wp2
  go_ret
  exact ⟨rfl, rfl⟩
set_option maxHeartbeats 2000000 in
set_option maxRecDepth 20000 in
theorem valueOf_k (s : ByteArray) (w : World) :
    Calls Tryz.prog 79 #[.int .i32 107, .string s] w fun o w' => o = .returned (.tuple #[vlV (choice s wRef wOpt) 0 (.slice none 0 0), .bool (decide (0 ≤ choice s wRef wOpt))]) ∧ Below w.heap.size w w' := by
  have HX := hidYY (fun w => choices_k w)
  have HB1 : Hid (Below (w.alloc (.cells #[.int .i64 0, .int .u32 0, .slice none 0 0] 132)).heap.size (w.alloc (.cells #[.int .i64 0, .int .u32 0, .slice none 0 0] 132)) ((w.alloc (.cells #[.int .i64 0, .int .u32 0, .slice none 0 0] 132)).alloc (.cells #[.string ⟨wRef.toArray⟩, .string ⟨wOpt.toArray⟩] 9))) := (Below.refl _ _).alloc (Nat.le_refl _) _
  obtain ⟨C, HCD⟩ : ∃ C, Hid (choice s wRef wOpt = C) := ⟨_, rfl⟩
  rw [HCD.out]
  by_cases h0 : 0 ≤ C
  · have HD : Hid (decide (0 ≤ C) = true) := decide_eq_true h0
    go_enter Tryz.func79, Tryz.ntmps79
    go_wp2_with fail
    refine (HX.out _).mono ?_
    rintro o w1 ⟨rfl, hw1⟩
    have HY := hidYY (index2 s wRef wOpt (w.heap.size + 1) w1 (by rw [hw1]; simp) (by rw [hw1]; simp))
    have hbb := HB1.out
    rw [← hw1] at hbb
    obtain ⟨c0, c1, c2, f0, f1, f2, hB⟩ := vl_cells hbb
    have HB := hidYY hB
    clear hbb hB hw1 HB1 HX
    rw [HCD.out] at HY
    go_wp2_with fail
    refine HY.out.mono ?_
    rintro o w2 ⟨rfl, hw2⟩
    subst hw2
    go_wp2
    refine bodyPost_ret (v := .tuple #[vlV C 0 (.slice none 0 0), .bool true]) (by simp [results, Tryz.results79, go_sem, c0, c1, c2] <;> omega) rfl ?_
    exact ⟨by rw [HD.out], ((HB.out.setCell (p := ⟨_, 0, none⟩) (by exact Nat.le_refl _) _).setCell (p := ⟨_, 1, none⟩) (by exact Nat.le_refl _) _).setCell (p := ⟨_, 2, none⟩) (by exact Nat.le_refl _) _⟩
  · have HD : Hid (decide (0 ≤ C) = false) := decide_eq_false h0
    go_enter Tryz.func79, Tryz.ntmps79
    go_wp2_with fail
    refine (HX.out _).mono ?_
    rintro o w1 ⟨rfl, hw1⟩
    have HY := hidYY (index2 s wRef wOpt (w.heap.size + 1) w1 (by rw [hw1]; simp) (by rw [hw1]; simp))
    have hbb := HB1.out
    rw [← hw1] at hbb
    obtain ⟨c0, c1, c2, f0, f1, f2, hB⟩ := vl_cells hbb
    have HB := hidYY hB
    clear hbb hB hw1 HB1 HX
    rw [HCD.out] at HY
    go_wp2_with fail
    refine HY.out.mono ?_
    rintro o w2 ⟨rfl, hw2⟩
    subst hw2
    go_wp2
    refine bodyPost_ret (v := .tuple #[vlV C 0 (.slice none 0 0), .bool false]) (by simp [results, Tryz.results79, go_sem, c0, c1, c2] <;> omega) rfl ?_
    exact ⟨by rw [HD.out], ((HB.out.setCell (p := ⟨_, 0, none⟩) (by exact Nat.le_refl _) _).setCell (p := ⟨_, 1, none⟩) (by exact Nat.le_refl _) _).setCell (p := ⟨_, 2, none⟩) (by exact Nat.le_refl _) _⟩
theorem choices_p (w : World) : Calls Tryz.prog 94 #[.int .i32 112] w fun o w' => o = .returned (.slice (some ⟨w.heap.size, 0, none⟩) 2 2) ∧ w' = w.alloc (.cells #[.string ⟨wOld.toArray⟩, .string ⟨wNew.toArray⟩] 9) := by
  go_enter Tryz.func94, Tryz.ntmps94
  go_wp2
  go_ret
  exact ⟨rfl, rfl⟩
set_option maxHeartbeats 2000000 in
set_option maxRecDepth 20000 in
theorem valueOf_p (s : ByteArray) (w : World) :
    Calls Tryz.prog 79 #[.int .i32 112, .string s] w fun o w' => o = .returned (.tuple #[vlV (choice s wOld wNew) 0 (.slice none 0 0), .bool (decide (0 ≤ choice s wOld wNew))]) ∧ Below w.heap.size w w' := by
  have HX := hidYY (fun w => choices_p w)
  have HB1 : Hid (Below (w.alloc (.cells #[.int .i64 0, .int .u32 0, .slice none 0 0] 132)).heap.size (w.alloc (.cells #[.int .i64 0, .int .u32 0, .slice none 0 0] 132)) ((w.alloc (.cells #[.int .i64 0, .int .u32 0, .slice none 0 0] 132)).alloc (.cells #[.string ⟨wOld.toArray⟩, .string ⟨wNew.toArray⟩] 9))) := (Below.refl _ _).alloc (Nat.le_refl _) _
  obtain ⟨C, HCD⟩ : ∃ C, Hid (choice s wOld wNew = C) := ⟨_, rfl⟩
  rw [HCD.out]
  by_cases h0 : 0 ≤ C
  · have HD : Hid (decide (0 ≤ C) = true) := decide_eq_true h0
    go_enter Tryz.func79, Tryz.ntmps79
    go_wp2_with fail
    refine (HX.out _).mono ?_
    rintro o w1 ⟨rfl, hw1⟩
    have HY := hidYY (index2 s wOld wNew (w.heap.size + 1) w1 (by rw [hw1]; simp) (by rw [hw1]; simp))
    have hbb := HB1.out
    rw [← hw1] at hbb
    obtain ⟨c0, c1, c2, f0, f1, f2, hB⟩ := vl_cells hbb
    have HB := hidYY hB
    clear hbb hB hw1 HB1 HX
    rw [HCD.out] at HY
    go_wp2_with fail
    refine HY.out.mono ?_
    rintro o w2 ⟨rfl, hw2⟩
    subst hw2
    go_wp2
    refine bodyPost_ret (v := .tuple #[vlV C 0 (.slice none 0 0), .bool true]) (by simp [results, Tryz.results79, go_sem, c0, c1, c2] <;> omega) rfl ?_
    exact ⟨by rw [HD.out], ((HB.out.setCell (p := ⟨_, 0, none⟩) (by exact Nat.le_refl _) _).setCell (p := ⟨_, 1, none⟩) (by exact Nat.le_refl _) _).setCell (p := ⟨_, 2, none⟩) (by exact Nat.le_refl _) _⟩
  · have HD : Hid (decide (0 ≤ C) = false) := decide_eq_false h0
    go_enter Tryz.func79, Tryz.ntmps79
    go_wp2_with fail
    refine (HX.out _).mono ?_
    rintro o w1 ⟨rfl, hw1⟩
    have HY := hidYY (index2 s wOld wNew (w.heap.size + 1) w1 (by rw [hw1]; simp) (by rw [hw1]; simp))
    have hbb := HB1.out
    rw [← hw1] at hbb
    obtain ⟨c0, c1, c2, f0, f1, f2, hB⟩ := vl_cells hbb
    have HB := hidYY hB
    clear hbb hB hw1 HB1 HX
    rw [HCD.out] at HY
    go_wp2_with fail
    refine HY.out.mono ?_
    rintro o w2 ⟨rfl, hw2⟩
    subst hw2
    go_wp2
    refine bodyPost_ret (v := .tuple #[vlV C 0 (.slice none 0 0), .bool false]) (by simp [results, Tryz.results79, go_sem, c0, c1, c2] <;> omega) rfl ?_
    exact ⟨by rw [HD.out], ((HB.out.setCell (p := ⟨_, 0, none⟩) (by exact Nat.le_refl _) _).setCell (p := ⟨_, 1, none⟩) (by exact Nat.le_refl _) _).setCell (p := ⟨_, 2, none⟩) (by exact Nat.le_refl _) _⟩
theorem choices_w (w : World) : Calls Tryz.prog 94 #[.int .i32 119] w fun o w' => o = .returned (.slice (some ⟨w.heap.size, 0, none⟩) 2 2) ∧ w' = w.alloc (.cells #[.string ⟨wB.toArray⟩, .string ⟨wX.toArray⟩] 9) := by
  go_enter Tryz.func94, Tryz.ntmps94
  go_wp2
  go_ret
  exact ⟨rfl, rfl⟩
set_option maxHeartbeats 2000000 in
set_option maxRecDepth 20000 in
theorem valueOf_w (s : ByteArray) (w : World) :
    Calls Tryz.prog 79 #[.int .i32 119, .string s] w fun o w' => o = .returned (.tuple #[vlV (choice s wB wX) 0 (.slice none 0 0), .bool (decide (0 ≤ choice s wB wX))]) ∧ Below w.heap.size w w' := by
  have HX := hidYY (fun w => choices_w w)
  have HB1 : Hid (Below (w.alloc (.cells #[.int .i64 0, .int .u32 0, .slice none 0 0] 132)).heap.size (w.alloc (.cells #[.int .i64 0, .int .u32 0, .slice none 0 0] 132)) ((w.alloc (.cells #[.int .i64 0, .int .u32 0, .slice none 0 0] 132)).alloc (.cells #[.string ⟨wB.toArray⟩, .string ⟨wX.toArray⟩] 9))) := (Below.refl _ _).alloc (Nat.le_refl _) _
  obtain ⟨C, HCD⟩ : ∃ C, Hid (choice s wB wX = C) := ⟨_, rfl⟩
  rw [HCD.out]
  by_cases h0 : 0 ≤ C
  · have HD : Hid (decide (0 ≤ C) = true) := decide_eq_true h0
    go_enter Tryz.func79, Tryz.ntmps79
    go_wp2_with fail
    refine (HX.out _).mono ?_
    rintro o w1 ⟨rfl, hw1⟩
    have HY := hidYY (index2 s wB wX (w.heap.size + 1) w1 (by rw [hw1]; simp) (by rw [hw1]; simp))
    have hbb := HB1.out
    rw [← hw1] at hbb
    obtain ⟨c0, c1, c2, f0, f1, f2, hB⟩ := vl_cells hbb
    have HB := hidYY hB
    clear hbb hB hw1 HB1 HX
    rw [HCD.out] at HY
    go_wp2_with fail
    refine HY.out.mono ?_
    rintro o w2 ⟨rfl, hw2⟩
    subst hw2
    go_wp2
    refine bodyPost_ret (v := .tuple #[vlV C 0 (.slice none 0 0), .bool true]) (by simp [results, Tryz.results79, go_sem, c0, c1, c2] <;> omega) rfl ?_
    exact ⟨by rw [HD.out], ((HB.out.setCell (p := ⟨_, 0, none⟩) (by exact Nat.le_refl _) _).setCell (p := ⟨_, 1, none⟩) (by exact Nat.le_refl _) _).setCell (p := ⟨_, 2, none⟩) (by exact Nat.le_refl _) _⟩
  · have HD : Hid (decide (0 ≤ C) = false) := decide_eq_false h0
    go_enter Tryz.func79, Tryz.ntmps79
    go_wp2_with fail
    refine (HX.out _).mono ?_
    rintro o w1 ⟨rfl, hw1⟩
    have HY := hidYY (index2 s wB wX (w.heap.size + 1) w1 (by rw [hw1]; simp) (by rw [hw1]; simp))
    have hbb := HB1.out
    rw [← hw1] at hbb
    obtain ⟨c0, c1, c2, f0, f1, f2, hB⟩ := vl_cells hbb
    have HB := hidYY hB
    clear hbb hB hw1 HB1 HX
    rw [HCD.out] at HY
    go_wp2_with fail
    refine HY.out.mono ?_
    rintro o w2 ⟨rfl, hw2⟩
    subst hw2
    go_wp2
    refine bodyPost_ret (v := .tuple #[vlV C 0 (.slice none 0 0), .bool false]) (by simp [results, Tryz.results79, go_sem, c0, c1, c2] <;> omega) rfl ?_
    exact ⟨by rw [HD.out], ((HB.out.setCell (p := ⟨_, 0, none⟩) (by exact Nat.le_refl _) _).setCell (p := ⟨_, 1, none⟩) (by exact Nat.le_refl _) _).setCell (p := ⟨_, 2, none⟩) (by exact Nat.le_refl _) _⟩
end Go.Proofs.YtfbeaekddgpmmaaGreatDoor
