import Derived.Test.YtjmlalojfghkiaaDoorR11
import Derived.Test.YtjmlalojfghkiaaDoorR06
import Derived.Test.YtjmlalojfghkiaaDoorR09
namespace Go.Proofs.YtjmlalojfghkiaaDoor
open Go.RowKit
set_option linter.unusedVariables false
theorem rowOf_any (w : World) (hg : w.rangeAt 0 0 tabL) (hz : 0 < w.heap.size) (f : Int) (hf : 1 ≤ f) (hf1 : f ≤ 14) (e : Bool) (i : Nat) (r : Bool) (d : Int) (hd : 0 ≤ d) (hd1 : d ≤ 15) (a : Option Addr) (n cap : Nat) :
    Calls Tryd.prog 75 #[.int .i64 f, frV e i r d a n cap] w fun o w' => o = .returned (.agg #[.int .i64 f, .int .i64 (rsz f e r d), .int .i64 (afterZ f e r d)]) ∧ Below w.heap.size w w' := by
  have h : f = 1 ∨ f = 2 ∨ f = 3 ∨ f = 4 ∨ f = 5 ∨ f = 6 ∨ f = 7 ∨ f = 8 ∨ f = 9 ∨ f = 10 ∨ f = 11 ∨ f = 12 ∨ f = 13 ∨ f = 14 := by omega
  rcases h with rfl | rfl | rfl | rfl | rfl | rfl | rfl | rfl | rfl | rfl | rfl | rfl | rfl | rfl
  · exact rowOf_1 w hg hz e i r d hd hd1 a n cap
  · exact rowOf_2 w hg hz e i r d hd hd1 a n cap
  · exact rowOf_3 w hg hz e i r d hd hd1 a n cap
  · exact rowOf_4 w hg hz e i r d hd hd1 a n cap
  · exact rowOf_5 w hg hz e i r d hd hd1 a n cap
  · exact rowOf_6 w hg hz e i r d hd hd1 a n cap
  · exact rowOf_7 w hg hz e i r d hd hd1 a n cap
  · exact rowOf_8 w hg hz e i r d hd hd1 a n cap
  · exact rowOf_9 w hg hz e i r d hd hd1 a n cap
  · exact rowOf_10 w hg hz e i r d hd hd1 a n cap
  · exact rowOf_11 w hg hz e i r d hd hd1 a n cap
  · exact rowOf_12 w hg hz e i r d hd hd1 a n cap
  · exact rowOf_13 w hg hz e i r d hd hd1 a n cap
  · exact rowOf_14 w hg hz e i r d hd hd1 a n cap
theorem dlen_le (r : Bool) (d : Int) (h0 : 0 ≤ d) (h1 : d ≤ 15) : 0 ≤ dlen r d ∧ dlen r d ≤ 8 := by
  unfold dlen
  cases r <;> simp <;> omega
theorem rsz_le (f : Int) (e r : Bool) (d : Int) (h0 : 0 ≤ d) (h1 : d ≤ 15) : 0 ≤ rsz f e r d ∧ rsz f e r d ≤ 64 := by
  unfold rsz
  have := dlen_le r d h0 h1
  split
  · omega
  · exact sizeZ_le f e d h0 h1
/-- what soundLeft asks -/
def leftOk (S : Sc) : Prop := 1 ≤ S.lf ∧ S.lf ≤ rsz S.f S.e S.r S.d ∧ (S.f = 9 → (S.l.length : Int) = (rsz S.f S.e S.r S.d - S.lf + 7) / 8)
set_option maxHeartbeats 4000000 in
set_option maxRecDepth 20000 in
theorem soundLeft_any (w : World) (hg : w.rangeAt 0 0 tabL) (hz : 0 < w.heap.size) (S : Sc) (hf : 1 ≤ S.f) (hf1 : S.f ≤ 14) (hd : 0 ≤ S.d) (hd1 : S.d ≤ 15) (a : Option Addr) (n cap : Nat) (hn : n = S.l.length) (hn8 : n ≤ 8) :
    Calls Tryd.prog 51 #[scV S a n cap] w fun o w' => retB o (leftOk S) ∧ Below w.heap.size w w' := by
  obtain ⟨f, lf, rn, lv, cr, ac, e, i, r, d, l⟩ := S
  simp only [] at hf hf1 hd hd1 hn
  have HRO : Hid (∀ W, Below w.heap.size w W → Calls Tryd.prog 75 #[.int .i64 f, frV e i r d a n cap] W fun o w' => o = .returned (.agg #[.int .i64 f, .int .i64 (rsz f e r d), .int .i64 (afterZ f e r d)]) ∧ Below W.heap.size W w') := fun W hW => rowOf_any W (fun j v hv => (hW.cell (p := ⟨0, 0 + j, none⟩) hz).trans (hg j v hv)) (Nat.lt_of_lt_of_le hz hW.size) f hf hf1 e i r d hd hd1 a n cap
  have hs := rsz_le f e r d hd hd1
  have HK : Hid (leftOk ⟨f, lf, rn, lv, cr, ac, e, i, r, d, l⟩ ↔ (1 ≤ lf ∧ lf ≤ rsz f e r d ∧ (f = 9 → (n : Int) = (rsz f e r d - lf + 7) / 8))) := by
    unfold leftOk
    simp only []
    rw [hn]
    exact Iff.rfl
  clear hg hn hz
  generalize leftOk ⟨f, lf, rn, lv, cr, ac, e, i, r, d, l⟩ = P at *
  generalize rsz f e r d = z at *
  generalize afterZ f e r d = af at *
  go_enter Tryd.func51, Tryd.ntmps51
  go_wp2_with fail
  refine (HRO.out _ ((Below.refl _ _).alloc (Nat.le_refl _) _)).mono ?_
  rintro o w1 ⟨rfl, hb1⟩
  have P1 : blk w1 w.heap.size (scL ⟨f, lf, rn, lv, cr, ac, e, i, r, d, l⟩ a n cap) 31 := (blk.new w _ 31).below hb1
  have HB1 : Hid (Below w.heap.size w w1) := ((Below.refl w.heap.size w).alloc (Nat.le_refl _) _).trans (hb1.mono (by simp))
  have y0 := P1.cell 0 _ rfl
  have y1 := P1.cell 1 _ rfl
  have y10 := P1.cell 10 _ rfl
  clear P1 hb1 HRO
  have hfld : ∀ W : World, (Instr.field 97 (.agg #[.int .i64 f, .int .i64 z, .int .i64 af]) 1).run Tryd.prog W = .ok (.int .i64 z) W := fun W => by kernel_rfl
  by_cases c1 : lf < 1
  · go_wp2_with fail
    go_ret
    refine ⟨⟨_, rfl, ?_⟩, HB1.out⟩
    rw [HK.out]
    clear HK
    simp
    omega
  · by_cases c2 : z < lf
    · go_wp2_with fail
      go_ret
      refine ⟨⟨_, rfl, ?_⟩, HB1.out⟩
      rw [HK.out]
      clear HK
      simp
      omega
    · have hq : (z - lf + 8 - 1).tdiv 8 = (z - lf + 7) / 8 := by
        rw [Int.tdiv_eq_ediv_of_nonneg (by omega)]
        omega
      have hQ0 : 0 ≤ (z - lf + 7) / 8 := by omega
      have hQ8 : (z - lf + 7) / 8 ≤ 100 := by omega
      generalize hQ : (z - lf + 7) / 8 = Q at *
      have HQ : Hid ((z - lf + 7) / 8 = Q) := hQ
      clear hQ
      by_cases c9 : f = 9
      · have q9 : (f != 9) = false := by simpa using c9
        have H9 : Hid (f = 9) := c9
        clear c9
        go_wp2_with fail
        go_ret
        refine ⟨⟨_, rfl, ?_⟩, HB1.out⟩
        rw [HK.out]
        have h9 := H9.out
        clear HK
        simp
        omega
      · have q9 : (f != 9) = true := by simpa using c9
        have H9 : Hid (¬ f = 9) := c9
        clear c9
        go_wp2_with fail
        go_ret
        refine ⟨⟨_, rfl, ?_⟩, HB1.out⟩
        rw [HK.out]
        have h9 := H9.out
        clear HK
        simp
        omega
/-- the program's look says what the model's says -/
theorem okS_iff (S : Sc) : okS S ↔ ((1 ≤ S.f ∧ S.f ≤ 14) ∧ (S.i < 536870912 ∧ 0 ≤ S.d ∧ S.d ≤ 15 ∧ S.l.length ≤ 8) ∧ (0 ≤ S.cr ∧ S.cr ≤ 32767) ∧ (0 ≤ S.ac ∧ S.ac ≤ 32767) ∧ runOk S ∧ leftOk S) := by
  obtain ⟨f, lf, rn, lv, cr, ac, e, i, r, d, l⟩ := S
  have hz9 : ∀ h : f = 9, sizeZ f e d = if d > 8 then 64 else 8 * d := fun h => by unfold sizeZ; rw [h]; rfl
  have hr9 : ∀ h : f = 9, rsz f e r d = 8 * dlen r d := fun h => if_pos h
  have hrn : ∀ h : ¬ f = 9, rsz f e r d = sizeZ f e d := fun h => if_neg h
  unfold okS runOk leftOk
  simp only []
  generalize sizeZ f e d = z at *
  generalize rsz f e r d = y at *
  by_cases h9 : f = 9
  · have e1 := hz9 h9
    have e2 := hr9 h9
    have q : ¬ (f = 1 ∨ 11 < f) := by omega
    rw [if_neg q]
    unfold dlen at e2
    cases r
    · simp at e2
      simp only [eq_self, true_and]
      by_cases h8 : d > 8
      · rw [if_pos h8] at e1
        omega
      · rw [if_neg h8] at e1
        omega
    · simp at e2
      simp only [Bool.true_eq_false, false_and, imp_false]
      omega
  · have e2 := hrn h9
    by_cases q : f = 1 ∨ 11 < f
    · rw [if_pos q]
      omega
    · rw [if_neg q]
      omega
set_option maxHeartbeats 8000000 in
set_option maxRecDepth 20000 in
theorem soundScan_any (w : World) (hg : w.rangeAt 0 0 tabL) (hz : 0 < w.heap.size) (S : Sc) (a : Option Addr) (n cap : Nat) (hn : n = S.l.length) (hn1 : n ≤ 1048576) :
    Calls Tryd.prog 27 #[scV S a n cap] w fun o w' => retB o (okS S) ∧ Below w.heap.size w w' := by
  have HIR : Hid (∀ (W : World) (v : Int), Calls Tryd.prog 49 #[.int .i64 v] W fun o w' => retB o (0 ≤ v ∧ v ≤ 32767) ∧ w' = W) := fun W v => isRegister_any W v
  have HSR : Hid (∀ W : World, Calls Tryd.prog 50 #[scV S a n cap] W fun o w' => retB o (runOk S) ∧ Below W.heap.size W w') := fun W => soundRun_any W S a n cap
  have HSL : Hid (1 ≤ S.f → S.f ≤ 14 → 0 ≤ S.d → S.d ≤ 15 → n ≤ 8 → ∀ W : World, Below w.heap.size w W → Calls Tryd.prog 51 #[scV S a n cap] W fun o w' => retB o (leftOk S) ∧ Below W.heap.size W w') := fun h1 h2 h3 h4 h5 W hW => soundLeft_any W (fun j v hv => (hW.cell (p := ⟨0, 0 + j, none⟩) hz).trans (hg j v hv)) (Nat.lt_of_lt_of_le hz hW.size) S h1 h2 h3 h4 a n cap hn h5
  have hK0 := okS_iff S
  rw [← hn] at hK0
  have HK : Hid (okS S ↔ ((1 ≤ S.f ∧ S.f ≤ 14) ∧ (S.i < 536870912 ∧ 0 ≤ S.d ∧ S.d ≤ 15 ∧ n ≤ 8) ∧ (0 ≤ S.cr ∧ S.cr ≤ 32767) ∧ (0 ≤ S.ac ∧ S.ac ≤ 32767) ∧ runOk S ∧ leftOk S)) := hK0
  clear hg hz hn hK0
  generalize okS S = P at *
  generalize runOk S = PR at *
  generalize leftOk S = PL at *
  obtain ⟨f, lf, rn, lv, cr, ac, e, i, r, d, l⟩ := S
  simp only [] at HK HSL
  have hA : Below w.heap.size w (w.alloc (.cells (scL ⟨f, lf, rn, lv, cr, ac, e, i, r, d, l⟩ a n cap).toArray 31)) := (Below.refl _ _).alloc (Nat.le_refl _) _
  have HA : Hid (Below w.heap.size w (w.alloc (.cells (scL ⟨f, lf, rn, lv, cr, ac, e, i, r, d, l⟩ a n cap).toArray 31)) ∧ blk (w.alloc (.cells (scL ⟨f, lf, rn, lv, cr, ac, e, i, r, d, l⟩ a n cap).toArray 31)) w.heap.size (scL ⟨f, lf, rn, lv, cr, ac, e, i, r, d, l⟩ a n cap) 31) := ⟨hA, blk.new w _ 31⟩
  clear hA
  by_cases hf : 1 ≤ f ∧ f ≤ 14
  · obtain ⟨hf1, hf2⟩ := hf
    by_cases hK : i < 536870912 ∧ 0 ≤ d ∧ d ≤ 15 ∧ n ≤ 8
    · obtain ⟨hi, hd0, hd1, hn8⟩ := hK
      have qi : decide ((i : Int) ≤ 536870911) = true := decide_eq_true (by omega)
      have HI : Hid (i < 536870912) := hi
      clear hi
      go_enter Tryd.func27, Tryd.ntmps27
      go_wp2_with fail
      refine (HIR.out _ cr).mono ?_
      rintro o w1 ⟨⟨b1, rfl, h1⟩, rfl⟩
      have H1 : Hid (b1 = true ↔ (0 ≤ cr ∧ cr ≤ 32767)) := h1
      clear h1
      cases b1
      · go_wp2_with fail
        go_ret
        refine ⟨⟨_, rfl, ?_⟩, HA.out.1⟩
        rw [HK.out]
        simp only [Bool.false_eq_true, false_iff]
        intro hh
        exact absurd (H1.out.2 hh.2.2.1) (by decide)
      · go_wp2_with fail
        refine (HIR.out _ ac).mono ?_
        rintro o w2 ⟨⟨b2, rfl, h2⟩, rfl⟩
        have H2 : Hid (b2 = true ↔ (0 ≤ ac ∧ ac ≤ 32767)) := h2
        clear h2
        cases b2
        · go_wp2_with fail
          go_ret
          refine ⟨⟨_, rfl, ?_⟩, HA.out.1⟩
          rw [HK.out]
          simp only [Bool.false_eq_true, false_iff]
          intro hh
          exact absurd (H2.out.2 hh.2.2.2.1) (by decide)
        · go_wp2_with fail
          refine (HSR.out _).mono ?_
          rintro o w3 ⟨⟨b3, rfl, h3⟩, hb3⟩
          have H3 : Hid (b3 = true ↔ PR) := h3
          have HB3 : Hid (Below w.heap.size w w3) := HA.out.1.trans (hb3.mono HA.out.1.size)
          have HP3 : Hid (blk w3 w.heap.size (scL ⟨f, lf, rn, lv, cr, ac, e, i, r, d, l⟩ a n cap) 31) := HA.out.2.below hb3
          clear h3 hb3
          cases b3
          · go_wp2_with fail
            go_ret
            refine ⟨⟨_, rfl, ?_⟩, HB3.out⟩
            rw [HK.out]
            simp only [Bool.false_eq_true, false_iff]
            intro hh
            exact absurd (H3.out.2 hh.2.2.2.2.1) (by decide)
          · go_wp2_with (first | (refine wpList_load_midG (by rfl) 31 (.tmp 1) rfl w.heap.size 0 rfl _ _ HP3.out.load Tryd.underlying31 rfl sz31 ?_))
            refine (HSL.out hf1 hf2 hd0 hd1 hn8 _ HB3.out).mono ?_
            rintro o w4 ⟨⟨b4, rfl, h4⟩, hb4⟩
            have H4 : Hid (b4 = true ↔ PL) := h4
            have HB4 : Hid (Below w.heap.size w w4) := HB3.out.trans (hb4.mono HB3.out.size)
            clear h4 hb4
            have HFT : Hid (∀ b : Bool, (b = true ↔ PL) → (b = true ↔ P)) := fun b hb => by
              rw [HK.out, hb]
              exact ⟨fun hp => ⟨⟨hf1, hf2⟩, ⟨HI.out, hd0, hd1, hn8⟩, H1.out.1 (by simp), H2.out.1 (by simp), H3.out.1 (by simp), hp⟩, fun hh => hh.2.2.2.2.2⟩
            go_wp2_with fail
            go_ret
            exact ⟨⟨b4, rfl, HFT.out b4 H4.out⟩, HB4.out⟩
    · go_enter Tryd.func27, Tryd.ntmps27
      go_upto_region 3 with fail
      go_cut [3] (fun s3 wx => s3 = .bool false ∧ wx = w.alloc (.cells (scL ⟨f, lf, rn, lv, cr, ac, e, i, r, d, l⟩ a n cap).toArray 31))
      case first =>
        by_cases hi : i < 536870912
        · have qi : decide ((i : Int) ≤ 536870911) = true := decide_eq_true (by omega)
          have hK2 : d < 0 ∨ 15 < d ∨ 8 < n := by
            rcases Int.lt_or_le d 0 with h0 | h0
            · exact Or.inl h0
            · rcases Int.lt_or_le 15 d with h1 | h1
              · exact Or.inr (Or.inl h1)
              · rcases Nat.lt_or_ge 8 n with h2 | h2
                · exact Or.inr (Or.inr h2)
                · exact absurd ⟨hi, h0, h1, h2⟩ hK
          clear hK hi
          by_cases c1 : d < 0
          · clear hK2
            go_wp2_with fail
            go_meet
            exact ⟨rfl, rfl⟩
          · by_cases c2 : 15 < d
            · clear hK2
              go_wp2_with fail
              go_meet
              exact ⟨rfl, rfl⟩
            · have c3 : 8 < n := by omega
              have q8 : decide ((n : Int) ≤ 8) = false := decide_eq_false (by omega)
              clear hK2
              go_wp2_with fail
              go_meet
              exact ⟨rfl, rfl⟩
        · have qi : decide ((i : Int) ≤ 536870911) = false := decide_eq_false (by omega)
          clear hi hK
          go_wp2_with fail
          go_meet
          exact ⟨rfl, rfl⟩
      case rest =>
        obtain ⟨rfl, rfl⟩ := hcut
        have HKK : Hid (¬ (i < 536870912 ∧ 0 ≤ d ∧ d ≤ 15 ∧ n ≤ 8)) := hK
        clear hK
        go_wp2_with fail
        go_ret
        refine ⟨⟨_, rfl, ?_⟩, HA.out.1⟩
        rw [HK.out]
        simp only [Bool.false_eq_true, false_iff]
        intro hh
        exact HKK.out hh.2.1
  · have hf' : f < 1 ∨ 14 < f := by omega
    have HF : Hid (¬ (1 ≤ f ∧ f ≤ 14)) := hf
    clear hf
    rcases hf' with h | h
    all_goals
      go_enter Tryd.func27, Tryd.ntmps27
      go_wp2_with fail
      go_ret
      refine ⟨⟨_, rfl, ?_⟩, HA.out.1⟩
      rw [HK.out]
      simp only [Bool.false_eq_true, false_iff]
      intro hh
      exact HF.out hh.1
theorem formUnless_any (w : World) (c : Bool) : Calls Tryd.prog 76 #[.bool c] w fun o w' => o = .returned (.int .i64 (if c = true then 0 else 4)) ∧ w' = w := by
  cases c
  all_goals
    go_enter Tryd.func76, Tryd.ntmps76
    go_wp2
    go_ret
    exact ⟨rfl, rfl⟩
theorem goesOn_any (w : World) (c : Int) : Calls Tryd.prog 31 #[.int .i64 c] w fun o w' => retB o (c = 0 ∨ c = 1) ∧ w' = w := by
  go_enter Tryd.func31, Tryd.ntmps31
  go_wp2
  all_goals (go_ret; refine ⟨⟨_, rfl, ?_⟩, rfl⟩; simp_all)
theorem verd13 {lf cr ac bit : Int} (h : bit = 1) : verdZ 13 lf cr ac bit = (if bit = 0 then 4 else if ac = cr then 0 else 5) := rfl
theorem verd14 {lf cr ac : Int} (h1 : ¬ lf = 1) (h2 : ¬ lf = 2) (h3 : 1 ≤ lf) (b : Nat) (hb : b < 2) : (if ((b : Int) == 1) = true then (0 : Int) else 4) = verdZ 14 lf cr ac b := by
  have hb' : b = 0 ∨ b = 1 := by omega
  rcases hb' with rfl | rfl
  · show (4 : Int) = (if lf > 1 then 4 else 6)
    rw [if_pos (by omega)]
  · show (0 : Int) = (if lf = 2 then 1 else if lf = 1 then 2 else 0)
    rw [if_neg h2, if_neg h1]
set_option maxHeartbeats 8000000 in
set_option maxRecDepth 20000 in
theorem plainCode_any (w : World) (P : Nat) (S : Sc) (a : Option Addr) (n cap : Nat) (h : blk w P (scL S a n cap) 31) (hlf : 1 ≤ S.lf) (b : Nat) (hb : b < 2) :
    Calls Tryd.prog 52 #[.pointer (some ⟨P, 0, none⟩), .int .i64 (b : Int)] w fun o w' => o = .returned (.int .i64 (verdZ S.f S.lf S.cr S.ac b)) ∧ Below w.heap.size w w' := by
  obtain ⟨f, lf, rn, lv, cr, ac, e, i, r, d, l⟩ := S
  have z0 := h.cell 0 _ rfl
  have z1 := h.cell 1 _ rfl
  have z4 := h.cell 4 _ rfl
  have z5 := h.cell 5 _ rfl
  simp only [] at hlf ⊢
  have HLF : Hid (1 ≤ lf) := hlf
  clear h hlf
  have HFU : Hid (∀ (W : World) (c : Bool), Calls Tryd.prog 76 #[.bool c] W fun o w' => o = .returned (.int .i64 (if c = true then 0 else 4)) ∧ w' = W) := fun W c => formUnless_any W c
  have hb' : b = 0 ∨ b = 1 := by omega
  by_cases h1 : f = 1
  · subst h1
    rcases hb' with rfl | rfl
    all_goals
      go_enter Tryd.func52, Tryd.ntmps52
      go_wp2_with (first | (go_at_call 76; refine (HFU.out _ _).mono ?_; rintro o w1 ⟨rfl, rfl⟩))
      go_ret
      exact ⟨rfl, Below.refl _ _⟩
  by_cases h13 : f = 13
  · subst h13
    rcases hb' with rfl | rfl
    · go_enter Tryd.func52, Tryd.ntmps52
      go_wp2_with fail
      go_quiet (fail)
      go_wp2_with (first | (go_at_call 76; refine (HFU.out _ _).mono ?_; rintro o w1 ⟨rfl, rfl⟩))
      go_ret
      refine ⟨ret_int ?_, below_drewN (Below.refl _ _) _⟩
      rfl
    · by_cases hca : ac = cr
      · have q : (ac != cr) = false := by simpa using hca
        have HCA : Hid (ac = cr) := hca
        clear hca
        go_enter Tryd.func52, Tryd.ntmps52
        go_wp2_with fail
        go_quiet (fail)
        go_wp2_with (first | (go_at_call 76; refine (HFU.out _ _).mono ?_; rintro o w1 ⟨rfl, rfl⟩))
        go_ret
        refine ⟨ret_int ?_, below_drewN (Below.refl _ _) _⟩
        show (0 : Int) = (if ac = cr then 0 else 5)
        rw [if_pos HCA.out]
      · have q : (ac != cr) = true := by simpa using hca
        have HCA : Hid (¬ ac = cr) := hca
        clear hca
        go_enter Tryd.func52, Tryd.ntmps52
        go_wp2_with fail
        go_quiet (fail)
        go_wp2_with (first | (go_at_call 76; refine (HFU.out _ _).mono ?_; rintro o w1 ⟨rfl, rfl⟩))
        go_ret
        refine ⟨ret_int ?_, below_drewN (Below.refl _ _) _⟩
        show (5 : Int) = (if ac = cr then 0 else 5)
        rw [if_neg HCA.out]
  by_cases h14 : f = 14
  · subst h14
    by_cases l1 : lf = 1
    · subst l1
      rcases hb' with rfl | rfl
      all_goals
        go_enter Tryd.func52, Tryd.ntmps52
        go_wp2_with fail
        go_quiet (fail)
        go_wp2_with (first | (go_at_call 76; refine (HFU.out _ _).mono ?_; rintro o w1 ⟨rfl, rfl⟩))
        go_ret
        refine ⟨ret_int ?_, below_drewN (Below.refl _ _) _⟩
        rfl
    · by_cases l2 : lf = 2
      · subst l2
        rcases hb' with rfl | rfl
        all_goals
          go_enter Tryd.func52, Tryd.ntmps52
          go_wp2_with fail
          go_quiet (fail)
          go_wp2_with (first | (go_at_call 76; refine (HFU.out _ _).mono ?_; rintro o w1 ⟨rfl, rfl⟩))
          go_ret
          refine ⟨ret_int ?_, below_drewN (Below.refl _ _) _⟩
          rfl
      · have q1 : (lf == 1) = false := by simpa using l1
        have q2 : (lf == 2) = false := by simpa using l2
        have HL : Hid (¬ lf = 1 ∧ ¬ lf = 2) := ⟨l1, l2⟩
        clear l1 l2
        rcases hb' with rfl | rfl
        all_goals
          go_enter Tryd.func52, Tryd.ntmps52
          go_wp2_with fail
          go_quiet (fail)
          go_wp2_with (first | (go_at_call 76; refine (HFU.out _ _).mono ?_; rintro o w1 ⟨rfl, rfl⟩))
          go_ret
          refine ⟨ret_int ?_, below_drewN (Below.refl _ _) _⟩
          first | exact verd14 HL.out.1 HL.out.2 HLF.out 0 (by decide) | exact verd14 HL.out.1 HL.out.2 HLF.out 1 (by decide)
  by_cases h11 : f = 11
  · subst h11
    rcases hb' with rfl | rfl
    all_goals
      go_enter Tryd.func52, Tryd.ntmps52
      go_wp2_with fail
      go_quiet (fail)
      go_wp2_with (first | (go_at_call 76; refine (HFU.out _ _).mono ?_; rintro o w1 ⟨rfl, rfl⟩))
      go_ret
      refine ⟨ret_int ?_, below_drewN (Below.refl _ _) _⟩
      rfl
  · have q1 : (f == 1) = false := by simpa using h1
    have q13 : (f == 13) = false := by simpa using h13
    have q14 : (f == 14) = false := by simpa using h14
    have q11 : (f == 11) = false := by simpa using h11
    have HF : Hid (verdZ f lf cr ac b = 0) := by
      show _ = _
      unfold verdZ
      rw [if_neg h1, if_neg h11, if_neg h13, if_neg h14]
    clear h1 h13 h14 h11
    go_enter Tryd.func52, Tryd.ntmps52
    go_wp2_with fail
    go_quiet (fail)
    go_wp2_with (first | (go_at_call 76; refine (HFU.out _ _).mono ?_; rintro o w1 ⟨rfl, rfl⟩))
    go_ret
    refine ⟨ret_int ?_, below_drewN (Below.refl _ _) _⟩
    exact HF.out.symm
/-- the scan at block P has become T; nothing else is turned but what is new -/
structure sP (w w' : World) (P : Nat) (T : Sc) (a : Option Addr) (n cap : Nat) : Prop where
  q : blk w' P (scL T a n cap) 31
  o : ∀ q, q ≠ P → q < w.heap.size → w'.heap[q]? = w.heap[q]?
  b : Below P w w'
theorem sP.put {w w' : World} {P : Nat} {T T' : Sc} {a : Option Addr} {n cap : Nat} (h : sP w w' P T a n cap) (o : Nat) (v : Value) (he : (scL T a n cap).set o v = scL T' a n cap) : sP w (w'.setCell ⟨P, o, none⟩ v) P T' a n cap :=
  ⟨he ▸ h.q.set o v, fun q h1 h2 => (heap_setCell_other _ _ _ _ (by exact h1)).trans (h.o q h1 h2), h.b.setCell (by exact Nat.le_refl _) _⟩
theorem sP.start {w : World} {P : Nat} {T : Sc} {a : Option Addr} {n cap : Nat} (h : blk w P (scL T a n cap) 31) : sP w w P T a n cap := ⟨h, fun _ _ _ => rfl, Below.refl _ _⟩
set_option maxHeartbeats 4000000 in
set_option maxRecDepth 20000 in
theorem hear_any (w : World) (P : Nat) (S : Sc) (a : Option Addr) (n cap : Nat) (h : blk w P (scL S a n cap) 31) (hr : S.rn ≤ 5) (hr0 : 0 ≤ S.rn) (b : Nat) (hb : b < 2) :
    Calls Tryd.prog 53 #[.pointer (some ⟨P, 0, none⟩), .int .i64 (b : Int)] w fun o w' => (∃ v, o = .returned v) ∧ sP w w' P (hearT S b) a n cap := by
  obtain ⟨f, lf, rn, lv, cr, ac, e, i, r, d, l⟩ := S
  simp only [] at hr hr0
  have HB : Hid (blk w P (scL ⟨f, lf, rn, lv, cr, ac, e, i, r, d, l⟩ a n cap) 31) := h
  have z0 := h.cell 0 _ rfl
  have z2 := h.cell 2 _ rfl
  have z3 := h.cell 3 _ rfl
  have f2 := h.free 2
  have f3 := h.free 3
  clear h
  by_cases h11 : 11 ≤ f
  · go_enter Tryd.func53, Tryd.ntmps53
    go_wp2_with fail
    go_end0
    refine ⟨⟨_, rfl⟩, ?_⟩
    rw [hearT_hi (by omega)]
    exact ((sP.start HB.out).put (T' := ⟨f, lf, 0, lv, cr, ac, e, i, r, d, l⟩) 2 (.int .i64 0) rfl).put 3 (.int .i64 0) rfl
  · by_cases hr1 : 0 < rn
    · by_cases hr2 : (b : Int) = lv
      · have hq : ((b : Int) == lv) = true := by simpa using hr2
        have HR2 : Hid ((b : Int) = lv) := hr2
        clear hr2
        go_enter Tryd.func53, Tryd.ntmps53
        go_wp2_with fail
        go_end0
        refine ⟨⟨_, rfl⟩, ?_⟩
        rw [hearT_on (by omega) hr1 HR2.out, HR2.out]
        exact (sP.start HB.out).put (T' := ⟨f, lf, rn + 1, lv, cr, ac, e, i, r, d, l⟩) 2 (.int .i64 (rn + 1)) rfl
      · have hq : ((b : Int) == lv) = false := by simpa using hr2
        have HR2 : Hid (¬ (b : Int) = lv) := hr2
        clear hr2
        go_enter Tryd.func53, Tryd.ntmps53
        go_wp2_with fail
        go_end0
        refine ⟨⟨_, rfl⟩, ?_⟩
        rw [hearT_new (by omega) (fun h => HR2.out h.2)]
        exact ((sP.start HB.out).put (T' := ⟨f, lf, 1, lv, cr, ac, e, i, r, d, l⟩) 2 (.int .i64 1) rfl).put 3 (.int .i64 (b : Int)) rfl
    · go_enter Tryd.func53, Tryd.ntmps53
      go_wp2_with fail
      go_end0
      refine ⟨⟨_, rfl⟩, ?_⟩
      rw [hearT_new (by omega) (fun h => by have := h.1; omega)]
      exact ((sP.start HB.out).put (T' := ⟨f, lf, 1, lv, cr, ac, e, i, r, d, l⟩) 2 (.int .i64 1) rfl).put 3 (.int .i64 (b : Int)) rfl
end Go.Proofs.YtjmlalojfghkiaaDoor
