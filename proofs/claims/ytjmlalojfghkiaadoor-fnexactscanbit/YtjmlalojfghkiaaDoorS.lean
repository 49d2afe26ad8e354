import Derived.Test.YtjmlalojfghkiaaDoorR
namespace Go.Proofs.YtjmlalojfghkiaaDoor
open Go.RowKit
set_option linter.unusedVariables false
set_option maxHeartbeats 8000000 in
set_option maxRecDepth 20000 in
theorem soundScan_any (w : World) (hg : w.rangeAt 0 0 tabL) (hz : 0 < w.heap.size) (S : Sc) (a : Option Addr) (n cap : Nat) (hn : n = S.l.length) (hn1 : n ≤ 1048576) :
    Calls Tryd.prog 27 #[scV S a n cap] w fun o w' => retB o (okS S) ∧ Below w.heap.size w w' := by
  have HIR : Hid (∀ (W : World) (v : Int), Calls Tryd.prog 49 #[.int .i64 v] W fun o w' => retB o (0 ≤ v ∧ v ≤ 32767) ∧ w' = W) := fun W v => isRegister_any W v
  have HSR : Hid (∀ W : World, Calls Tryd.prog 50 #[scV S a n cap] W fun o w' => retB o (runOk S) ∧ Below W.heap.size W w') := fun W => soundRun_any W S a n cap
  have HSL : Hid (1 ≤ S.f → S.f ≤ 14 → 0 ≤ S.d → S.d ≤ 15 → n ≤ 8 → ∀ W : World, Below w.heap.size w W → Calls Tryd.prog 51 #[scV S a n cap] W fun o w' => retB o (leftOk S) ∧ Below W.heap.size W w') := fun h1 h2 h3 h4 h5 W hW => soundLeft_any W (fun j v hv => (hW.cell (p := ⟨0, 0 + j, none⟩) hz).trans (hg j v hv)) (Nat.lt_of_lt_of_le hz hW.size) S h1 h2 h3 h4 a n cap hn h5
  have hK0 := okS_iff S
  rw [← hn] at hK0
  have HK : Hid (okS S ↔ ((1 ≤ S.f ∧ S.f ≤ 14) ∧ (S.i < 536870912 ∧ 0 ≤ S.d ∧ S.d ≤ 15 ∧ n ≤ 8) ∧ (0 ≤ S.cr ∧ S.cr ≤ 32767) ∧ (0 ≤ S.ac ∧ S.ac ≤ 32767) ∧ runOk S ∧ leftOk S)) := hK0
  clear hg hz hn hK0
  generalize okS S = P at *
  generalize runOk S = PR at *
  generalize leftOk S = PL at *
  obtain ⟨f, lf, rn, lv, cr, ac, e, i, r, d, l⟩ := S
  simp only [] at HK HSL
  have hA : Below w.heap.size w (w.alloc (.cells (scL ⟨f, lf, rn, lv, cr, ac, e, i, r, d, l⟩ a n cap).toArray 31)) := (Below.refl _ _).alloc (Nat.le_refl _) _
  have HA : Hid (Below w.heap.size w (w.alloc (.cells (scL ⟨f, lf, rn, lv, cr, ac, e, i, r, d, l⟩ a n cap).toArray 31)) ∧ blk (w.alloc (.cells (scL ⟨f, lf, rn, lv, cr, ac, e, i, r, d, l⟩ a n cap).toArray 31)) w.heap.size (scL ⟨f, lf, rn, lv, cr, ac, e, i, r, d, l⟩ a n cap) 31) := ⟨hA, blk.new w _ 31⟩
  clear hA
  by_cases hf : 1 ≤ f ∧ f ≤ 14
  · obtain ⟨hf1, hf2⟩ := hf
    by_cases hK : i < 536870912 ∧ 0 ≤ d ∧ d ≤ 15 ∧ n ≤ 8
    · obtain ⟨hi, hd0, hd1, hn8⟩ := hK
      have qi : decide ((i : Int) ≤ 536870911) = true := decide_eq_true (by omega)
      have HI : Hid (i < 536870912) := hi
      clear hi
      go_enter Tryd.func27, Tryd.ntmps27
      go_wp2_with fail
      refine (HIR.out _ cr).mono ?_
      rintro o w1 ⟨⟨b1, rfl, h1⟩, rfl⟩
      have H1 : Hid (b1 = true ↔ (0 ≤ cr ∧ cr ≤ 32767)) := h1
      clear h1
      cases b1
      · go_wp2_with fail
        go_ret
        refine ⟨⟨_, rfl, ?_⟩, HA.out.1⟩
        rw [HK.out]
        simp only [Bool.false_eq_true, false_iff]
        intro hh
        exact absurd (H1.out.2 hh.2.2.1) (by decide)
      · go_wp2_with fail
        refine (HIR.out _ ac).mono ?_
        rintro o w2 ⟨⟨b2, rfl, h2⟩, rfl⟩
        have H2 : Hid (b2 = true ↔ (0 ≤ ac ∧ ac ≤ 32767)) := h2
        clear h2
        cases b2
        · go_wp2_with fail
          go_ret
          refine ⟨⟨_, rfl, ?_⟩, HA.out.1⟩
          rw [HK.out]
          simp only [Bool.false_eq_true, false_iff]
          intro hh
          exact absurd (H2.out.2 hh.2.2.2.1) (by decide)
        · go_wp2_with fail
          refine (HSR.out _).mono ?_
          rintro o w3 ⟨⟨b3, rfl, h3⟩, hb3⟩
          have H3 : Hid (b3 = true ↔ PR) := h3
          have HB3 : Hid (Below w.heap.size w w3) := HA.out.1.trans (hb3.mono HA.out.1.size)
          have HP3 : Hid (blk w3 w.heap.size (scL ⟨f, lf, rn, lv, cr, ac, e, i, r, d, l⟩ a n cap) 31) := HA.out.2.below hb3
          clear h3 hb3
          cases b3
          · go_wp2_with fail
            go_ret
            refine ⟨⟨_, rfl, ?_⟩, HB3.out⟩
            rw [HK.out]
            simp only [Bool.false_eq_true, false_iff]
            intro hh
            exact absurd (H3.out.2 hh.2.2.2.2.1) (by decide)
          · go_wp2_with (first | (refine wpList_load_midG (by rfl) 31 (.tmp 1) rfl w.heap.size 0 rfl _ _ HP3.out.load Tryd.underlying31 rfl sz31 ?_))
            refine (HSL.out hf1 hf2 hd0 hd1 hn8 _ HB3.out).mono ?_
            rintro o w4 ⟨⟨b4, rfl, h4⟩, hb4⟩
            have H4 : Hid (b4 = true ↔ PL) := h4
            have HB4 : Hid (Below w.heap.size w w4) := HB3.out.trans (hb4.mono HB3.out.size)
            clear h4 hb4
            have HFT : Hid (∀ b : Bool, (b = true ↔ PL) → (b = true ↔ P)) := fun b hb => by
              rw [HK.out, hb]
              exact ⟨fun hp => ⟨⟨hf1, hf2⟩, ⟨HI.out, hd0, hd1, hn8⟩, H1.out.1 (by simp), H2.out.1 (by simp), H3.out.1 (by simp), hp⟩, fun hh => hh.2.2.2.2.2⟩
            go_wp2_with fail
            go_ret
            exact ⟨⟨b4, rfl, HFT.out b4 H4.out⟩, HB4.out⟩
    · go_enter Tryd.func27, Tryd.ntmps27
      go_upto_region 3 with fail
      go_cut [3] (fun s3 wx => s3 = .bool false ∧ wx = w.alloc (.cells (scL ⟨f, lf, rn, lv, cr, ac, e, i, r, d, l⟩ a n cap).toArray 31))
      case first =>
        by_cases hi : i < 536870912
        · have qi : decide ((i : Int) ≤ 536870911) = true := decide_eq_true (by omega)
          have hK2 : d < 0 ∨ 15 < d ∨ 8 < n := by
            rcases Int.lt_or_le d 0 with h0 | h0
            · exact Or.inl h0
            · rcases Int.lt_or_le 15 d with h1 | h1
              · exact Or.inr (Or.inl h1)
              · rcases Nat.lt_or_ge 8 n with h2 | h2
                · exact Or.inr (Or.inr h2)
                · exact absurd ⟨hi, h0, h1, h2⟩ hK
          clear hK hi
          by_cases c1 : d < 0
          · clear hK2
            go_wp2_with fail
            go_meet
            exact ⟨rfl, rfl⟩
          · by_cases c2 : 15 < d
            · clear hK2
              go_wp2_with fail
              go_meet
              exact ⟨rfl, rfl⟩
            · have c3 : 8 < n := by omega
              have q8 : decide ((n : Int) ≤ 8) = false := decide_eq_false (by omega)
              clear hK2
              go_wp2_with fail
              go_meet
              exact ⟨rfl, rfl⟩
        · have qi : decide ((i : Int) ≤ 536870911) = false := decide_eq_false (by omega)
          clear hi hK
          go_wp2_with fail
          go_meet
          exact ⟨rfl, rfl⟩
      case rest =>
        obtain ⟨rfl, rfl⟩ := hcut
        have HKK : Hid (¬ (i < 536870912 ∧ 0 ≤ d ∧ d ≤ 15 ∧ n ≤ 8)) := hK
        clear hK
        go_wp2_with fail
        go_ret
        refine ⟨⟨_, rfl, ?_⟩, HA.out.1⟩
        rw [HK.out]
        simp only [Bool.false_eq_true, false_iff]
        intro hh
        exact HKK.out hh.2.1
  · have hf' : f < 1 ∨ 14 < f := by omega
    have HF : Hid (¬ (1 ≤ f ∧ f ≤ 14)) := hf
    clear hf
    rcases hf' with h | h
    all_goals
      go_enter Tryd.func27, Tryd.ntmps27
      go_wp2_with fail
      go_ret
      refine ⟨⟨_, rfl, ?_⟩, HA.out.1⟩
      rw [HK.out]
      simp only [Bool.false_eq_true, false_iff]
      intro hh
      exact HF.out hh.1
end Go.Proofs.YtjmlalojfghkiaaDoor
