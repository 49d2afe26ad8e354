import Derived.Test.YtpknchjjfiiaeaaDoorT33
import Derived.Deep.RegionWith
import Derived.BigQuiet
namespace Go.Proofs.YtpknchjjfiiaeaaDoor
open Go.RowKit
set_option linter.unusedVariables false
/-- the numbers of spans -/
def spN (S : List (Nat × Nat × Nat)) : List Nat := S.flatMap fun x => [x.1, x.2.1, x.2.2]
theorem spN_len (S : List (Nat × Nat × Nat)) : (spN S).length = S.length * 3 := by
  induction S with
  | nil => rfl
  | cons a S ih => simp only [spN, List.flatMap_cons, List.length_append, List.length_cons, List.length_nil] at ih ⊢; omega
theorem spV_N (S : List (Nat × Nat × Nat)) : spV S = (spN S).map fun x : Nat => Value.int .i64 (x : Int) := by
  induction S with
  | nil => rfl
  | cons a S ih => simp only [spN, spV, List.flatMap_cons, List.map_append] at ih ⊢; rw [ih]; rfl
/-- a row of N numbers in block g -/
structure rowI (w : World) (g N : Nat) (f : Nat → Int) : Prop where
  cell : ∀ t, t < N → w.cell? ⟨g, t, none⟩ = some (.int .i64 (f t))
  free : ∀ t, t < N → w.frozen? ⟨g, t, none⟩ = false
theorem ownsS.row {w : World} {B : Nat} {v : Value} {S : List (Nat × Nat × Nat)} (h : ownsS w B v S) (hS : S ≠ []) : ∃ g k, v = .slice (some ⟨g, 0, none⟩) S.length k ∧ rowI w g (S.length * 3) (fun t => ((spN S).getD t 0 : Nat)) := by
  have h' := h
  obtain ⟨h1, ⟨h2, h3⟩ | ⟨g, cap, cur, h2, h3, hh, h4⟩⟩ := h'
  · exact absurd (List.length_eq_zero_iff.mp h3) hS
  · refine ⟨g, cap, h2, fun t ht => ?_, fun t ht => ?_⟩
    · subst h2
      rw [World.ownsRow.cellAt h t ht, spV_N, List.getElem?_map]
      have hl : t < (spN S).length := by rw [spN_len]; exact ht
      simp [List.getD, hl]
    · subst h2; exact World.ownsRow.frozenAt h t
theorem ownsS.nil {w : World} {B : Nat} {v : Value} (h : ownsS w B v []) : ∃ a k, v = .slice a 0 k := by
  obtain ⟨h1, ⟨h2, h3⟩ | ⟨g, cap, cur, h2, h3, hh, h4⟩⟩ := h
  · exact ⟨none, 0, h2⟩
  · exact ⟨_, cap, h2⟩
set_option maxHeartbeats 1000000 in
theorem eqSpan_same (w : World) (x y z : Int) : Calls Tryd.prog 32 #[.agg #[.int .i64 x, .int .i64 y, .int .i64 z], .agg #[.int .i64 x, .int .i64 y, .int .i64 z]] w fun o w' => o = .returned (.bool true) ∧ Below w.heap.size w w' := by
  have hx : (x != x) = false := by simp
  have hy : (y != y) = false := by simp
  have hz : (z != z) = false := by simp
  go_enter Tryd.func32, Tryd.ntmps32
  go_wp2
  go_ret
  exact ⟨rfl, ((Below.refl _ _).alloc (Nat.le_refl _) _).alloc (by simp) _⟩
set_option maxHeartbeats 2000000 in
set_option maxRecDepth 20000 in
theorem eqSpanS_row (w : World) (g k g' k' n : Nat) (f : Nat → Int) (h : rowI w g (n * 3) f) (h' : rowI w g' (n * 3) f) (hn : n ≤ 1000) (hg : g < w.heap.size) (hg' : g' < w.heap.size) :
    Calls Tryd.prog 16 #[.slice (some ⟨g, 0, none⟩) n k, .slice (some ⟨g', 0, none⟩) n k'] w fun o w' => o = .returned (.bool true) ∧ Below w.heap.size w w' := by
  have H := hidYY (And.intro h h')
  clear h h'
  have hnn : ((n : Int) != (n : Int)) = false := by simp
  go_enter Tryd.func16, Tryd.ntmps16
  go_wp2_with fail
  go_loopw [5] (fun iv wr => ∃ j : Nat, iv = .int .i64 (j : Int) ∧ j ≤ n ∧ Below w.heap.size w wr) (fun iv _ => ((n : Int) - intOf iv).toNat)
  case atStart => exact ⟨0, rfl, by omega, Below.refl _ _⟩
  case round =>
    obtain ⟨j, rfl, hj, hb⟩ := hrel
    by_cases hjn : j = n
    · have HB := hidYY hb
      have hlt : ¬ j < n := by omega
      clear hjn hb hj
      go_wp2_with fail
      go_ret
      exact ⟨rfl, HB.out⟩
    · have hlt : j < n := by omega
      have HB := hidYY hb
      have c0 := (hb.cell (p := ⟨g, j * 3, none⟩) hg).trans (H.out.1.cell (j * 3) (by omega))
      have c1 := (hb.cell (p := ⟨g, j * 3 + 1, none⟩) hg).trans (H.out.1.cell (j * 3 + 1) (by omega))
      have c2 := (hb.cell (p := ⟨g, j * 3 + 2, none⟩) hg).trans (H.out.1.cell (j * 3 + 2) (by omega))
      have d0 := (hb.cell (p := ⟨g', j * 3, none⟩) hg').trans (H.out.2.cell (j * 3) (by omega))
      have d1 := (hb.cell (p := ⟨g', j * 3 + 1, none⟩) hg').trans (H.out.2.cell (j * 3 + 1) (by omega))
      have d2 := (hb.cell (p := ⟨g', j * 3 + 2, none⟩) hg').trans (H.out.2.cell (j * 3 + 2) (by omega))
      clear hjn hb
      generalize f (j * 3) = x at *
      generalize f (j * 3 + 1) = y at *
      generalize f (j * 3 + 2) = z at *
      have HE := hidYY (fun W => eqSpan_same W x y z)
      go_wp2_with fail
      go_region_with (go_at_call 32; refine (HE.out _).mono ?_; rintro o w3 ⟨rfl, b3⟩)
      all_goals
        have HB3 : Hid (Below w.heap.size w w3) := HB.out.trans (((Below.refl _ _).drew.trans b3).mono HB.out.size)
        clear b3 c0 c1 c2 d0 d1 d2
        go_wp2_with fail
        go_roundw
        case rel => exact ⟨j + 1, by go_num, by omega, HB3.out⟩
        case measure => simp [intOf]; omega
theorem rowI.set {w : World} {g N : Nat} {f f' : Nat → Int} (h : rowI w g N f) (t0 : Nat) (ht0 : t0 < N) (x : Int) (hx : x = f' t0) (he : ∀ t, t < N → t ≠ t0 → f t = f' t) : rowI (w.setCell ⟨g, t0, none⟩ (.int .i64 x)) g N f' := by
  refine ⟨fun t ht => ?_, fun t ht => ?_⟩
  · by_cases e : t = t0
    · subst e; rw [World.cell?_setCell_same _ _ _ (h.cell t ht), hx]
    · rw [World.cell?_setCell_other _ _ _ _ (by intro hh; exact e (by simpa using hh.symm)), h.cell t ht, he t ht e]
  · rw [World.frozen?_setCell]
    exact h.free t ht
theorem rowI.up {w W : World} {g N : Nat} {f : Nat → Int} (h : rowI w g N f) (he : W.heap[g]? = w.heap[g]?) : rowI W g N f := ⟨fun t ht => by rw [← h.cell t ht]; simp [World.cell?, he], fun t ht => by rw [← h.free t ht]; simp [World.frozen?, he]⟩
set_option maxHeartbeats 2000000 in
set_option maxRecDepth 20000 in
theorem markSpanS_row (w : World) (g n cap k : Nat) (f : Nat → Int) (hr : rowI w g (n * 3) f) (hn : n ≤ 1000) (hk : k ≤ 1000) :
    Calls Tryd.prog 17 #[.slice (some ⟨g, 0, none⟩) n cap, .int .i64 (k : Int)] w fun y w' => y = .returned (.int .i64 ((k + n * 3 : Nat) : Int)) ∧ rowI w' g (n * 3) (fun t => ((k + t : Nat) : Int)) ∧ (∀ b, b ≠ g → w'.heap[b]? = w.heap[b]?) ∧ Below g w w' := by
  have HR := hidYY hr
  clear hr
  go_enter Tryd.func17, Tryd.ntmps17
  go_wp2_with fail
  go_loopw [1, 5] (fun kv iv wr => ∃ j : Nat, iv = .int .i64 (j : Int) ∧ kv = .int .i64 ((k + j * 3 : Nat) : Int) ∧ j ≤ n ∧ rowI wr g (n * 3) (fun t => if t < j * 3 then ((k + t : Nat) : Int) else f t) ∧ (∀ b, b ≠ g → wr.heap[b]? = w.heap[b]?) ∧ Below g w wr) (fun _ iv _ => ((n : Int) - intOf iv).toNat)
  case atStart => exact ⟨0, rfl, by simp, by omega, ⟨fun t ht => by simpa using HR.out.cell t ht, HR.out.free⟩, fun _ _ => rfl, Below.refl _ _⟩
  case round =>
    obtain ⟨j, rfl, rfl, hj, hrow, hoth, hb⟩ := hrel
    by_cases hjn : j = n
    · subst hjn
      have HH : Hid (rowI wr g (j * 3) (fun t => ((k + t : Nat) : Int)) ∧ (∀ b, b ≠ g → wr.heap[b]? = w.heap[b]?) ∧ Below g w wr) := ⟨⟨fun t ht => by rw [hrow.cell t ht, if_pos ht], hrow.free⟩, hoth, hb⟩
      clear hrow hoth hb hj HR
      go_wp2_with fail
      go_ret
      exact ⟨rfl, HH.out⟩
    · have hlt : j < n := by omega
      have c0 := hrow.cell (j * 3) (by omega)
      have c1 := hrow.cell (j * 3 + 1) (by omega)
      have c2 := hrow.cell (j * 3 + 2) (by omega)
      have f0 := hrow.free (j * 3) (by omega)
      have f1 := hrow.free (j * 3 + 1) (by omega)
      have f2 := hrow.free (j * 3 + 2) (by omega)
      rw [if_neg (by omega)] at c0 c1 c2
      have HRW := hidYY (And.intro hrow (And.intro hoth hb))
      clear hrow hoth hb hjn HR
      generalize f (j * 3) = x0 at *
      generalize f (j * 3 + 1) = x1 at *
      generalize f (j * 3 + 2) = x2 at *
      go_wp2_with fail
      go_roundw
      case rel =>
        refine ⟨j + 1, by go_num, by congr 1; push_cast; omega, by omega, ?_, fun b hb => ?_, ?_⟩
        · have r1 := HRW.out.1.set (f' := fun t => if t < j * 3 + 1 then ((k + t : Nat) : Int) else f t) (j * 3) (by omega) ((k : Int) + (j : Int) * 3) (by rw [if_pos (by omega)]; push_cast; omega) (fun t _ hne => by by_cases h1 : t < j * 3; (rw [if_pos h1, if_pos (by omega)]); (rw [if_neg h1, if_neg (by omega)]))
          have r2 := r1.set (f' := fun t => if t < j * 3 + 2 then ((k + t : Nat) : Int) else f t) (j * 3 + 1) (by omega) ((k : Int) + (j : Int) * 3 + 1) (by rw [if_pos (by omega)]; push_cast; omega) (fun t _ hne => by by_cases h1 : t < j * 3 + 1; (rw [if_pos h1, if_pos (by omega)]); (rw [if_neg h1, if_neg (by omega)]))
          exact r2.set (f' := fun t => if t < (j + 1) * 3 then ((k + t : Nat) : Int) else f t) (j * 3 + 2) (by omega) ((k : Int) + (j : Int) * 3 + 1 + 1) (by rw [if_pos (by omega)]; push_cast; omega) (fun t _ hne => by by_cases h1 : t < j * 3 + 2; (rw [if_pos h1, if_pos (by omega)]); (rw [if_neg h1, if_neg (by omega)]))
        · exact (((heap_setCell_other _ ⟨g, j * 3 + 2, none⟩ b _ hb).trans (heap_setCell_other _ ⟨g, j * 3 + 1, none⟩ b _ hb)).trans (heap_setCell_other _ ⟨g, j * 3, none⟩ b _ hb)).trans (HRW.out.2.1 b hb)
        · exact ((HRW.out.2.2.setCell (p := ⟨g, j * 3, none⟩) (by simp) _).setCell (p := ⟨g, j * 3 + 1, none⟩) (by simp) _).setCell (p := ⟨g, j * 3 + 2, none⟩) (by simp) _
      case measure => simp [intOf]; omega
set_option maxHeartbeats 2000000 in
set_option maxRecDepth 20000 in
theorem heldSpanS_row (w : World) (g n cap k : Nat) (hr : rowI w g (n * 3) (fun t => ((k + t : Nat) : Int))) (hn : n ≤ 1000) (hk : k ≤ 1000) :
    Calls Tryd.prog 18 #[.slice (some ⟨g, 0, none⟩) n cap, .int .i64 (k : Int)] w fun y w' => y = .returned (.int .i64 ((k + n * 3 : Nat) : Int)) ∧ w' = w := by
  have HR := hidYY hr
  clear hr
  go_enter Tryd.func18, Tryd.ntmps18
  go_wp2_with fail
  go_loopw [1, 5] (fun kv iv wr => ∃ j : Nat, iv = .int .i64 (j : Int) ∧ kv = .int .i64 ((k + j * 3 : Nat) : Int) ∧ j ≤ n ∧ wr = w) (fun _ iv _ => ((n : Int) - intOf iv).toNat)
  case atStart => exact ⟨0, rfl, by simp, by omega, rfl⟩
  case round =>
    obtain ⟨j, rfl, rfl, hj, rfl⟩ := hrel
    by_cases hjn : j = n
    · subst hjn
      clear HR hj
      go_wp2_with fail
      go_ret
      exact ⟨rfl, rfl⟩
    · have hlt : j < n := by omega
      have c0 := HR.out.cell (j * 3) (by omega)
      have c1 := HR.out.cell (j * 3 + 1) (by omega)
      have c2 := HR.out.cell (j * 3 + 2) (by omega)
      have e0 : (((k + j * 3 : Nat) : Int) != ((k + j * 3 : Nat) : Int)) = false := by simp
      clear hjn
      go_wp2_with fail
      go_roundw
      case rel => exact ⟨j + 1, by go_num, by congr 1; push_cast; omega, by omega, by trivial⟩
      case measure => simp [intOf]; omega
/-- any empty row -/
theorem eqSpanS_nil (w : World) (a a' : Option Addr) (k k' : Nat) : Calls Tryd.prog 16 #[.slice a 0 k, .slice a' 0 k'] w fun o w' => o = .returned (.bool true) ∧ w' = w := by
  go_enter Tryd.func16, Tryd.ntmps16
  go_wp2_with fail
  go_loopw [5] (fun iv wr => iv = .int .i64 0 ∧ wr = w) (fun _ _ => 0)
  case atStart => exact ⟨rfl, rfl⟩
  case round =>
    obtain ⟨rfl, rfl⟩ := hrel
    go_wp2_with fail
    go_ret
    exact ⟨rfl, rfl⟩
theorem markSpanS_nil (w : World) (a : Option Addr) (cap k : Nat) : Calls Tryd.prog 17 #[.slice a 0 cap, .int .i64 (k : Int)] w fun y w' => y = .returned (.int .i64 (k : Int)) ∧ w' = w := by
  go_enter Tryd.func17, Tryd.ntmps17
  go_wp2_with fail
  go_loopw [1, 5] (fun kv iv wr => iv = .int .i64 0 ∧ kv = .int .i64 (k : Int) ∧ wr = w) (fun _ _ _ => 0)
  case atStart => exact ⟨rfl, rfl, rfl⟩
  case round =>
    obtain ⟨rfl, rfl, rfl⟩ := hrel
    go_wp2_with fail
    go_ret
    exact ⟨rfl, rfl⟩
theorem heldSpanS_nil (w : World) (a : Option Addr) (cap k : Nat) : Calls Tryd.prog 18 #[.slice a 0 cap, .int .i64 (k : Int)] w fun y w' => y = .returned (.int .i64 (k : Int)) ∧ w' = w := by
  go_enter Tryd.func18, Tryd.ntmps18
  go_wp2_with fail
  go_loopw [1, 5] (fun kv iv wr => iv = .int .i64 0 ∧ kv = .int .i64 (k : Int) ∧ wr = w) (fun _ _ _ => 0)
  case atStart => exact ⟨rfl, rfl, rfl⟩
  case round =>
    obtain ⟨rfl, rfl, rfl⟩ := hrel
    go_wp2_with fail
    go_ret
    exact ⟨rfl, rfl⟩
end Go.Proofs.YtpknchjjfiiaeaaDoor
