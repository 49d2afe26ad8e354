import Derived.Test.YtaamahohdnbpiaaGreatJC
namespace Go.Proofs.YtaamahohdnbpiaaGreat
open Go.RowKit
set_option linter.unusedVariables false
/-- impl.isOnWire -/
theorem isOnWire_any (w : World) (b : R8) (a : Option Addr) (n cap : Nat) :
    Calls Tryz.prog 167 #[bxV b.x b.y b.z b.e b.i b.r b.d a n cap] w fun o w' => o = .returned (.bool (b.x == 2 || b.x == 3)) ∧ Below w.heap.size w w' := by
  obtain ⟨x, y, z, e, i, r, d, l⟩ := b
  have HA : Hid (Below w.heap.size w (w.alloc (.cells #[.int .i64 x, .int .i64 y, .int .i64 z, .bool e, .int .u32 (i : Int), .bool r, .int .i64 d, .slice a n cap] 97))) := (Below.refl _ _).alloc (Nat.le_refl _) _
  by_cases h2 : x = 2
  · subst h2
    go_enter Tryz.func167, Tryz.ntmps167
    go_wp2
    go_ret
    exact ⟨rfl, HA.out⟩
  · have h2' : (x == 2) = false := by simpa using h2
    go_enter Tryz.func167, Tryz.ntmps167
    go_wp2
    go_ret
    exact ⟨ret_bool (by simp [h2']), HA.out⟩
set_option maxHeartbeats 4000000 in
set_option maxRecDepth 20000 in
/-- impl.validBox -/
theorem validBox_any (w : World) (b : R8) (st : Int) (a : Option Addr) (n cap : Nat) (h : isBytes w a n cap b.l) (hst : 0 ≤ st ∧ st ≤ 1000000) :
    Calls Tryz.prog 166 #[bxV b.x b.y b.z b.e b.i b.r b.d a n cap, .int .i64 st] w fun o w' => retB o (okBx st b) ∧ Below w.heap.size w w' := by
  have hlen := h.len
  obtain ⟨x, y, z, e, i, r, d, l⟩ := b
  simp only [] at hlen h ⊢
  have HA : Hid (Below w.heap.size w (w.alloc (.cells #[.int .i64 x, .int .i64 y, .int .i64 z, .bool e, .int .u32 (i : Int), .bool r, .int .i64 d, .slice a n cap] 97))) := (Below.refl _ _).alloc (Nat.le_refl _) _
  have HV : Hid (∀ W, Below w.heap.size w W → Calls Tryz.prog 153 #[frV e i r d a n cap] W fun o w' => o = .returned (.bool (validB e i r d n)) ∧ Below W.heap.size W w') := fun W hW => valid_any W e i r d a n cap l (h.below hW)
  have HZ : Hid (∀ W, Below w.heap.size w W → Calls Tryz.prog 178 #[frV e i r d a n cap, frV false 0 false 0 none 0 0] W fun o w' => o = .returned (.bool ((e == false) && (r == false) && ((i : Int) == ((0 : Nat) : Int)) && (d == 0) && decide (l = []))) ∧ Below W.heap.size W w') := fun W hW => same_any W e i r d a n cap l (h.below hW) false 0 false 0 none 0 0 [] ⟨rfl, Nat.le_refl _, fun _ hx => (by cases hx), fun hne => absurd rfl hne⟩
  have HLN : Hid (n = l.length) := hlen
  clear h hlen
  by_cases hx0 : x = 0
  · subst hx0
    have HOK : Hid (okBx st ⟨0, y, z, e, i, r, d, l⟩ ↔ (y = 0 ∧ z = 0 ∧ zFr e i r d l.length)) := by show _ ↔ _; unfold okBx; rw [if_pos rfl]
    by_cases hy0 : y = 0
    · subst hy0
      by_cases hz0 : z = 0
      · subst hz0
        go_enter Tryz.func166, Tryz.ntmps166
        go_wp2_with (first
          | (go_at_call 178; refine (HZ.out _ HA.out).mono ?_; rintro o w1 ⟨rfl, hb1⟩))
        go_ret
        refine ⟨⟨_, rfl, ?_⟩, HA.out.trans (hb1.mono HA.out.size)⟩
        rw [HOK.out]
        unfold zFr
        simp
        cases e <;> cases r <;> simp
        constructor
        · rintro ⟨⟨h1, h2⟩, h3⟩; exact ⟨h1, h2, by rw [h3]⟩
        · rintro ⟨h1, h2, h3⟩; exact ⟨⟨h1, h2⟩, by simpa using h3⟩
      · have hz' : (z == 0) = false := by simpa using hz0
        go_enter Tryz.func166, Tryz.ntmps166
        go_wp2
        go_ret
        exact ⟨⟨false, rfl, by rw [HOK.out]; simp [hz0]⟩, HA.out⟩
    · have hy' : (y == 0) = false := by simpa using hy0
      go_enter Tryz.func166, Tryz.ntmps166
      go_wp2
      go_ret
      exact ⟨⟨false, rfl, by rw [HOK.out]; simp [hy0]⟩, HA.out⟩
  · have HOK : Hid (okBx st ⟨x, y, z, e, i, r, d, l⟩ ↔ ((1 ≤ x ∧ x ≤ 3) ∧ (0 ≤ y ∧ y ≤ 9999) ∧ (0 ≤ z ∧ z < st) ∧ validB e i r d n = true)) := by show _ ↔ _; unfold okBx; rw [if_neg hx0, HLN.out]
    have hx' : (x == 0) = false := by simpa using hx0
    have HIR : Hid (∀ (W : World) (v l m : Int) (bb : Bool), decide (l ≤ v ∧ v ≤ m) = bb → Calls Tryz.prog 115 #[.int .i64 v, .int .i64 l, .int .i64 m] W fun o w' => o = .returned (.bool bb) ∧ W = w') := fun W v l m bb hbb => hbb ▸ inRange_any W v l m
    have hs1 : IntKind.i64.wrap (st - 1) = st - 1 := by rw [IntKind.wrap_i64]; omega
    clear hx0
    by_cases h1 : 1 ≤ x ∧ x ≤ 3
    · have J1 : Hid (∀ W, Calls Tryz.prog 115 #[.int .i64 x, .int .i64 1, .int .i64 3] W fun o w' => o = .returned (.bool true) ∧ W = w') := fun W => HIR.out W x 1 3 true (decide_eq_true h1)
      by_cases h2 : 0 ≤ y ∧ y ≤ 9999
      · have J2 : Hid (∀ W, Calls Tryz.prog 115 #[.int .i64 y, .int .i64 0, .int .i64 9999] W fun o w' => o = .returned (.bool true) ∧ W = w') := fun W => HIR.out W y 0 9999 true (decide_eq_true h2)
        by_cases h3 : 0 ≤ z ∧ z ≤ st - 1
        · have J3 : Hid (∀ W, Calls Tryz.prog 115 #[.int .i64 z, .int .i64 0, .int .i64 (st - 1)] W fun o w' => o = .returned (.bool true) ∧ W = w') := fun W => HIR.out W z 0 (st - 1) true (decide_eq_true h3)
          have HF : Hid (okBx st ⟨x, y, z, e, i, r, d, l⟩ ↔ validB e i r d n = true) := HOK.out.trans ⟨fun h => h.2.2.2, fun h => ⟨h1, h2, ⟨h3.1, by omega⟩, h⟩⟩
          clear h1 h2 h3 HIR HOK HZ
          go_enter Tryz.func166, Tryz.ntmps166
          go_wp2_with (first
            | (go_at_call 115; first | (refine (J1.out _).mono ?_; rintro o w1 ⟨rfl, rfl⟩; clear J1) | (refine (J2.out _).mono ?_; rintro o w1 ⟨rfl, rfl⟩; clear J2) | (refine (J3.out _).mono ?_; rintro o w1 ⟨rfl, rfl⟩; clear J3))
            | (go_at_call 153; refine (HV.out _ HA.out).mono ?_; rintro o w1 ⟨rfl, hb1⟩))
          go_ret
          exact ⟨⟨_, rfl, HF.out.symm⟩, HA.out.trans (hb1.mono HA.out.size)⟩
        · have J3 : Hid (∀ W, Calls Tryz.prog 115 #[.int .i64 z, .int .i64 0, .int .i64 (st - 1)] W fun o w' => o = .returned (.bool false) ∧ W = w') := fun W => HIR.out W z 0 (st - 1) false (decide_eq_false h3)
          have HF : Hid (¬ okBx st ⟨x, y, z, e, i, r, d, l⟩) := fun h => h3 (by have := (HOK.out.1 h).2.2.1; omega)
          clear h1 h2 h3 HIR HOK HZ HV
          go_enter Tryz.func166, Tryz.ntmps166
          go_wp2_with (first
            | (go_at_call 115; first | (refine (J1.out _).mono ?_; rintro o w1 ⟨rfl, rfl⟩; clear J1) | (refine (J2.out _).mono ?_; rintro o w1 ⟨rfl, rfl⟩; clear J2) | (refine (J3.out _).mono ?_; rintro o w1 ⟨rfl, rfl⟩; clear J3)))
          go_ret
          exact ⟨⟨false, rfl, by simpa using HF.out⟩, HA.out⟩
      · have J2 : Hid (∀ W, Calls Tryz.prog 115 #[.int .i64 y, .int .i64 0, .int .i64 9999] W fun o w' => o = .returned (.bool false) ∧ W = w') := fun W => HIR.out W y 0 9999 false (decide_eq_false h2)
        have HF : Hid (¬ okBx st ⟨x, y, z, e, i, r, d, l⟩) := fun h => h2 (HOK.out.1 h).2.1
        clear h1 h2 HIR HOK HZ HV
        go_enter Tryz.func166, Tryz.ntmps166
        go_wp2_with (first
          | (go_at_call 115; first | (refine (J1.out _).mono ?_; rintro o w1 ⟨rfl, rfl⟩; clear J1) | (refine (J2.out _).mono ?_; rintro o w1 ⟨rfl, rfl⟩; clear J2)))
        go_ret
        exact ⟨⟨false, rfl, by simpa using HF.out⟩, HA.out⟩
    · have J1 : Hid (∀ W, Calls Tryz.prog 115 #[.int .i64 x, .int .i64 1, .int .i64 3] W fun o w' => o = .returned (.bool false) ∧ W = w') := fun W => HIR.out W x 1 3 false (decide_eq_false h1)
      have HF : Hid (¬ okBx st ⟨x, y, z, e, i, r, d, l⟩) := fun h => h1 (HOK.out.1 h).1
      clear h1 HIR HOK HZ HV
      go_enter Tryz.func166, Tryz.ntmps166
      go_wp2_with (first
        | (go_at_call 115; refine (J1.out _).mono ?_; rintro o w1 ⟨rfl, rfl⟩; clear J1))
      go_ret
      exact ⟨⟨false, rfl, by simpa using HF.out⟩, HA.out⟩
end Go.Proofs.YtaamahohdnbpiaaGreat
