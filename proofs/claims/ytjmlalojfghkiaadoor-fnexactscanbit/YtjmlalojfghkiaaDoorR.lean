import Derived.Test.YtjmlalojfghkiaaDoorQ
import Derived.Test.YtjmlalojfghkiaaDoorO
namespace Go.Proofs.YtjmlalojfghkiaaDoor
open Go.RowKit
set_option linter.unusedVariables false
theorem rowOf_any (w : World) (hg : w.rangeAt 0 0 tabL) (hz : 0 < w.heap.size) (f : Int) (hf : 1 ≤ f) (hf1 : f ≤ 14) (e : Bool) (i : Nat) (r : Bool) (d : Int) (hd : 0 ≤ d) (hd1 : d ≤ 15) (a : Option Addr) (n cap : Nat) :
    Calls Tryd.prog 75 #[.int .i64 f, frV e i r d a n cap] w fun o w' => o = .returned (.agg #[.int .i64 f, .int .i64 (rsz f e r d), .int .i64 (afterZ f e r d)]) ∧ Below w.heap.size w w' := by
  have h : f = 1 ∨ f = 2 ∨ f = 3 ∨ f = 4 ∨ f = 5 ∨ f = 6 ∨ f = 7 ∨ f = 8 ∨ f = 9 ∨ f = 10 ∨ f = 11 ∨ f = 12 ∨ f = 13 ∨ f = 14 := by omega
  rcases h with rfl | rfl | rfl | rfl | rfl | rfl | rfl | rfl | rfl | rfl | rfl | rfl | rfl | rfl
  · exact rowOf_1 w hg hz e i r d hd hd1 a n cap
  · exact rowOf_2 w hg hz e i r d hd hd1 a n cap
  · exact rowOf_3 w hg hz e i r d hd hd1 a n cap
  · exact rowOf_4 w hg hz e i r d hd hd1 a n cap
  · exact rowOf_5 w hg hz e i r d hd hd1 a n cap
  · exact rowOf_6 w hg hz e i r d hd hd1 a n cap
  · exact rowOf_7 w hg hz e i r d hd hd1 a n cap
  · exact rowOf_8 w hg hz e i r d hd hd1 a n cap
  · exact rowOf_9 w hg hz e i r d hd hd1 a n cap
  · exact rowOf_10 w hg hz e i r d hd hd1 a n cap
  · exact rowOf_11 w hg hz e i r d hd hd1 a n cap
  · exact rowOf_12 w hg hz e i r d hd hd1 a n cap
  · exact rowOf_13 w hg hz e i r d hd hd1 a n cap
  · exact rowOf_14 w hg hz e i r d hd hd1 a n cap
theorem dlen_le (r : Bool) (d : Int) (h0 : 0 ≤ d) (h1 : d ≤ 15) : 0 ≤ dlen r d ∧ dlen r d ≤ 8 := by
  unfold dlen
  cases r <;> simp <;> omega
theorem rsz_le (f : Int) (e r : Bool) (d : Int) (h0 : 0 ≤ d) (h1 : d ≤ 15) : 0 ≤ rsz f e r d ∧ rsz f e r d ≤ 64 := by
  unfold rsz
  have := dlen_le r d h0 h1
  split
  · omega
  · exact sizeZ_le f e d h0 h1
/-- what soundLeft asks -/
def leftOk (S : Sc) : Prop := 1 ≤ S.lf ∧ S.lf ≤ rsz S.f S.e S.r S.d ∧ (S.f = 9 → (S.l.length : Int) = (rsz S.f S.e S.r S.d - S.lf + 7) / 8)
set_option maxHeartbeats 4000000 in
set_option maxRecDepth 20000 in
theorem soundLeft_any (w : World) (hg : w.rangeAt 0 0 tabL) (hz : 0 < w.heap.size) (S : Sc) (hf : 1 ≤ S.f) (hf1 : S.f ≤ 14) (hd : 0 ≤ S.d) (hd1 : S.d ≤ 15) (a : Option Addr) (n cap : Nat) (hn : n = S.l.length) (hn8 : n ≤ 8) :
    Calls Tryd.prog 51 #[scV S a n cap] w fun o w' => retB o (leftOk S) ∧ Below w.heap.size w w' := by
  obtain ⟨f, lf, rn, lv, cr, ac, e, i, r, d, l⟩ := S
  simp only [] at hf hf1 hd hd1 hn
  have HRO : Hid (∀ W, Below w.heap.size w W → Calls Tryd.prog 75 #[.int .i64 f, frV e i r d a n cap] W fun o w' => o = .returned (.agg #[.int .i64 f, .int .i64 (rsz f e r d), .int .i64 (afterZ f e r d)]) ∧ Below W.heap.size W w') := fun W hW => rowOf_any W (fun j v hv => (hW.cell (p := ⟨0, 0 + j, none⟩) hz).trans (hg j v hv)) (Nat.lt_of_lt_of_le hz hW.size) f hf hf1 e i r d hd hd1 a n cap
  have hs := rsz_le f e r d hd hd1
  have HK : Hid (leftOk ⟨f, lf, rn, lv, cr, ac, e, i, r, d, l⟩ ↔ (1 ≤ lf ∧ lf ≤ rsz f e r d ∧ (f = 9 → (n : Int) = (rsz f e r d - lf + 7) / 8))) := by
    unfold leftOk
    simp only []
    rw [hn]
    exact Iff.rfl
  clear hg hn hz
  generalize leftOk ⟨f, lf, rn, lv, cr, ac, e, i, r, d, l⟩ = P at *
  generalize rsz f e r d = z at *
  generalize afterZ f e r d = af at *
  go_enter Tryd.func51, Tryd.ntmps51
  go_wp2_with fail
  refine (HRO.out _ ((Below.refl _ _).alloc (Nat.le_refl _) _)).mono ?_
  rintro o w1 ⟨rfl, hb1⟩
  have P1 : blk w1 w.heap.size (scL ⟨f, lf, rn, lv, cr, ac, e, i, r, d, l⟩ a n cap) 31 := (blk.new w _ 31).below hb1
  have HB1 : Hid (Below w.heap.size w w1) := ((Below.refl w.heap.size w).alloc (Nat.le_refl _) _).trans (hb1.mono (by simp))
  have y0 := P1.cell 0 _ rfl
  have y1 := P1.cell 1 _ rfl
  have y10 := P1.cell 10 _ rfl
  clear P1 hb1 HRO
  have hfld : ∀ W : World, (Instr.field 97 (.agg #[.int .i64 f, .int .i64 z, .int .i64 af]) 1).run Tryd.prog W = .ok (.int .i64 z) W := fun W => by kernel_rfl
  by_cases c1 : lf < 1
  · go_wp2_with fail
    go_ret
    refine ⟨⟨_, rfl, ?_⟩, HB1.out⟩
    rw [HK.out]
    clear HK
    simp
    omega
  · by_cases c2 : z < lf
    · go_wp2_with fail
      go_ret
      refine ⟨⟨_, rfl, ?_⟩, HB1.out⟩
      rw [HK.out]
      clear HK
      simp
      omega
    · have hq : (z - lf + 8 - 1).tdiv 8 = (z - lf + 7) / 8 := by
        rw [Int.tdiv_eq_ediv_of_nonneg (by omega)]
        omega
      have hQ0 : 0 ≤ (z - lf + 7) / 8 := by omega
      have hQ8 : (z - lf + 7) / 8 ≤ 100 := by omega
      generalize hQ : (z - lf + 7) / 8 = Q at *
      have HQ : Hid ((z - lf + 7) / 8 = Q) := hQ
      clear hQ
      by_cases c9 : f = 9
      · have q9 : (f != 9) = false := by simpa using c9
        have H9 : Hid (f = 9) := c9
        clear c9
        go_wp2_with fail
        go_ret
        refine ⟨⟨_, rfl, ?_⟩, HB1.out⟩
        rw [HK.out]
        have h9 := H9.out
        clear HK
        simp
        omega
      · have q9 : (f != 9) = true := by simpa using c9
        have H9 : Hid (¬ f = 9) := c9
        clear c9
        go_wp2_with fail
        go_ret
        refine ⟨⟨_, rfl, ?_⟩, HB1.out⟩
        rw [HK.out]
        have h9 := H9.out
        clear HK
        simp
        omega
/-- the program's look says what the model's says -/
theorem okS_iff (S : Sc) : okS S ↔ ((1 ≤ S.f ∧ S.f ≤ 14) ∧ (S.i < 536870912 ∧ 0 ≤ S.d ∧ S.d ≤ 15 ∧ S.l.length ≤ 8) ∧ (0 ≤ S.cr ∧ S.cr ≤ 32767) ∧ (0 ≤ S.ac ∧ S.ac ≤ 32767) ∧ runOk S ∧ leftOk S) := by
  obtain ⟨f, lf, rn, lv, cr, ac, e, i, r, d, l⟩ := S
  have hz9 : ∀ h : f = 9, sizeZ f e d = if d > 8 then 64 else 8 * d := fun h => by unfold sizeZ; rw [h]; rfl
  have hr9 : ∀ h : f = 9, rsz f e r d = 8 * dlen r d := fun h => if_pos h
  have hrn : ∀ h : ¬ f = 9, rsz f e r d = sizeZ f e d := fun h => if_neg h
  unfold okS runOk leftOk
  simp only []
  generalize sizeZ f e d = z at *
  generalize rsz f e r d = y at *
  by_cases h9 : f = 9
  · have e1 := hz9 h9
    have e2 := hr9 h9
    have q : ¬ (f = 1 ∨ 11 < f) := by omega
    rw [if_neg q]
    unfold dlen at e2
    cases r
    · simp at e2
      simp only [eq_self, true_and]
      by_cases h8 : d > 8
      · rw [if_pos h8] at e1
        omega
      · rw [if_neg h8] at e1
        omega
    · simp at e2
      simp only [Bool.true_eq_false, false_and, imp_false]
      omega
  · have e2 := hrn h9
    by_cases q : f = 1 ∨ 11 < f
    · rw [if_pos q]
      omega
    · rw [if_neg q]
      omega
end Go.Proofs.YtjmlalojfghkiaaDoor
