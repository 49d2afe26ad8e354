import Derived.Test.YtfbeaekddgpmmaaGreatDoorK01
import Derived.Test.YtfbeaekddgpmmaaGreatDoorK11
namespace Go.Proofs.YtfbeaekddgpmmaaGreatDoor
open Go.RowKit
set_option linter.unusedVariables false
/-- the place of a word among the lines' names, from k on -/
def lrAt (w0 : List UInt8) : Nat → List (List UInt8 × Bool × List UInt8 × Nat) → Int
  | _, [] => -1
  | k, x :: l => if (x.1 == w0) = true then (k : Int) else lrAt w0 (k + 1) l
theorem lr_sz : (Tryz.prog.info? 102).map (·.size) = some 4 := by kernel_rfl
theorem lr_row (k : Nat) (hk : k < 9) (gr : Nat) (w : World) (h : w.rangeAt gr 0 lrC) : ∃ x, lrs[k]? = some x ∧ w.rangeAt gr (k * 4) (lrV x) := by
  have hl : k < lrs.length := hk
  refine ⟨lrs[k], List.getElem?_eq_getElem hl, fun j v hv => ?_⟩
  have hj : j < 4 := by have := (List.getElem?_eq_some_iff.1 hv).1; simpa [lrV] using this
  have key : lrC[k * 4 + j]? = (lrV lrs[k])[j]? := by
    revert hv
    match k, hk, j, hj with
    | 0, _, 0, _ | 0, _, 1, _ | 0, _, 2, _ | 0, _, 3, _ | 1, _, 0, _ | 1, _, 1, _ | 1, _, 2, _ | 1, _, 3, _ | 2, _, 0, _ | 2, _, 1, _ | 2, _, 2, _ | 2, _, 3, _ | 3, _, 0, _ | 3, _, 1, _ | 3, _, 2, _ | 3, _, 3, _ | 4, _, 0, _ | 4, _, 1, _ | 4, _, 2, _ | 4, _, 3, _ | 5, _, 0, _ | 5, _, 1, _ | 5, _, 2, _ | 5, _, 3, _ | 6, _, 0, _ | 6, _, 1, _ | 6, _, 2, _ | 6, _, 3, _ | 7, _, 0, _ | 7, _, 1, _ | 7, _, 2, _ | 7, _, 3, _ | 8, _, 0, _ | 8, _, 1, _ | 8, _, 2, _ | 8, _, 3, _ => intro _; rfl
  have := h (k * 4 + j) v (by rw [key]; exact hv)
  rwa [Nat.zero_add] at this
theorem lrAt_drop (w0 : List UInt8) : ∀ (l : List (List UInt8 × Bool × List UInt8 × Nat)) (k : Nat), k < l.length → ∀ x, l[k]? = some x → ∀ n, lrAt w0 (n + k) (l.drop k) = if (x.1 == w0) = true then ((n + k : Nat) : Int) else lrAt w0 (n + (k + 1)) (l.drop (k + 1))
  | l, k, hk, x, hx, n => by
    have e : l.drop k = x :: l.drop (k + 1) := by
      rw [List.drop_eq_getElem_cons hk]
      congr 1
      rw [List.getElem?_eq_getElem hk] at hx
      exact Option.some.inj hx
    rw [e]
    rfl
set_option maxHeartbeats 4000000 in
set_option maxRecDepth 20000 in
/-- slices.IndexFunc of the lines' rows -/
theorem idx59 (gr b g n cp : Nat) (w0 : List UInt8) (w : World) (hr : w.rangeAt gr 0 lrC) (hgr : gr < w.heap.size) (h0 : w.cell? ⟨b, 0, none⟩ = some (.slice (some ⟨g, 0, none⟩) n cp)) (hn : 0 < n) (h1 : w.cell? ⟨g, 0, none⟩ = some (.string ⟨w0.toArray⟩)) :
    Calls Tryz.prog 59 #[.slice (some ⟨gr, 0, none⟩) 9 9, .func (Fn.func 60) #[] #[.pointer (some ⟨b, 0, none⟩)]] w fun o w' => o = .returned (.int .i64 (lrAt w0 0 lrs)) ∧ Below w.heap.size w w' := by
  have hbl : b < w.heap.size := World.block_lt_of_cell? w _ h0
  have hgl : g < w.heap.size := World.block_lt_of_cell? w _ h1
  have HC : Hid (∀ W, Below w.heap.size w W → (∀ (nm kd : List UInt8) (su : Bool) (k : Nat), Calls Tryz.prog 60 #[.agg #[.string ⟨nm.toArray⟩, .bool su, .string ⟨kd.toArray⟩, .func (Fn.func k) #[] #[]], .pointer (some ⟨b, 0, none⟩)] W fun o w' => o = .returned (.bool (nm == w0)) ∧ Below W.heap.size W w') ∧ W.rangeAt gr 0 lrC) := by
    intro W hW
    exact ⟨fun nm kd su k => pred_any b g k n cp nm kd w0 su W ((hW.cell (p := ⟨b, 0, none⟩) hbl).trans h0) hn ((hW.cell (p := ⟨g, 0, none⟩) hgl).trans h1), fun j v hj => (hW.cell (p := ⟨gr, 0 + j, none⟩) hgr).trans (hr j v hj)⟩
  clear hr h0 h1 hn
  go_enter Tryz.func59, Tryz.ntmps59
  go_wp2
  go_loopw [8] (fun i wr => ∃ k : Nat, k ≤ 9 ∧ i = .int .i64 (k : Int) ∧ Below w.heap.size w wr ∧ lrAt w0 0 lrs = lrAt w0 k (lrs.drop k)) (fun i _ => 9 - (intOf i).toNat)
  case atStart => exact ⟨0, by omega, rfl, Below.refl _ _, rfl⟩
  case round =>
    obtain ⟨k, hk, rfl, bel, he⟩ := hrel
    have HE := hidYY he
    have HB := hidYY bel
    by_cases hlt : k < 9
    · obtain ⟨c1, c2⟩ := HC.out wr bel
      obtain ⟨x, hx, hrow⟩ := lr_row k hlt gr wr c2
      have hd := lrAt_drop w0 lrs k hlt x hx 0
      rw [Nat.zero_add] at hd
      obtain ⟨nm, su, kd, fn⟩ := x
      have HR : Hid (wr.rangeAt gr (k * 4) [.string ⟨nm.toArray⟩, .bool su, .string ⟨kd.toArray⟩, .func (Fn.func fn) #[] #[]]) := hrow
      have HP := hidYY (c1 nm kd su fn)
      simp only at hd
      have HD := hidYY hd
      clear c1 c2 hx hrow hd he bel
      cases hq : (nm == w0)
      · rw [hq] at HP HD
        go_wp2_with (first
          | (refine wpList_load_mid (P := Tryz.prog) rfl 102 _ rfl gr (k * 4) rfl [.string ⟨nm.toArray⟩, .bool su, .string ⟨kd.toArray⟩, .func (Fn.func fn) #[] #[]] _ HR.out Tryz.underlying102 rfl lr_sz ?_)
          | (go_at_call 60; refine HP.out.mono ?_; rintro o w1 ⟨rfl, b1⟩; have HB1 := hidYY (HB.out.trans (b1.mono HB.out.size)); clear b1))
        go_roundw
        case rel => exact ⟨k + 1, by omega, by go_num, HB1.out, by rw [HE.out, HD.out]; simp⟩
        case measure => simp [intOf]; omega
      · rw [hq] at HP HD
        go_wp2_with (first
          | (refine wpList_load_mid (P := Tryz.prog) rfl 102 _ rfl gr (k * 4) rfl [.string ⟨nm.toArray⟩, .bool su, .string ⟨kd.toArray⟩, .func (Fn.func fn) #[] #[]] _ HR.out Tryz.underlying102 rfl lr_sz ?_)
          | (go_at_call 60; refine HP.out.mono ?_; rintro o w1 ⟨rfl, b1⟩; have HB1 := hidYY (HB.out.trans (b1.mono HB.out.size)); clear b1))
        go_ret
        exact ⟨by rw [HE.out, HD.out]; rfl, HB1.out⟩
    · have hk9 : k = 9 := by omega
      subst hk9
      go_wp2
      go_ret
      exact ⟨by rw [HE.out]; rfl, HB.out⟩
end Go.Proofs.YtfbeaekddgpmmaaGreatDoor
