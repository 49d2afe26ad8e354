import Derived.Test.YtjmlalojfghkiaaDoorR34
namespace Go.Proofs.YtjmlalojfghkiaaDoor.G
open Go.RowKit
set_option linter.unusedVariables false
theorem ansO {w' : World} {B : Nat} {l : List Nat} {g : Option Addr} {n k : Nat} (h : ownsB w' B (.slice g n k) l) (hn : n = l.length) : ansB w' B l g n k := by
  rcases own_cases h with h1 | ⟨q, rfl⟩
  · exact Or.inr h1
  · exact Or.inl ⟨q, rfl, h, hn⟩
set_option maxHeartbeats 8000000 in
set_option maxRecDepth 40000 in
/-- impl.ScanBit goes on -/
theorem implScan_yes (w : World) (hg : w.rangeAt 0 0 tabL) (hz : 0 < w.heap.size) (S : Sc) (hS : okS S) (g : Option Addr) (n cap : Nat) (ha : okA g n cap) (h : isBytes w g n cap S.l) (b : Nat) (hb : b < 2) (c : Int) (hc : c = 0 ∨ c = 1) (T : Sc)
    (HT : ∀ W g' k', W.rangeAt 0 0 tabL → w.heap.size + 2 ≤ W.heap.size → kP W W w.heap.size (w.heap.size + 2) S g' n k' → Calls Tryd.prog 30 #[.pointer (some ⟨w.heap.size, 0, none⟩), .int .i64 (b : Int)] W fun o w' => o = .returned (.int .i64 c) ∧ aP W w' w.heap.size (w.heap.size + 2) T) :
    Calls Tryd.prog 8 #[scV S g n cap, .int .i64 (b : Int)] w fun o w' => ∃ a n' k', o = .returned (.tuple #[scV T a n' k', .int .i64 c]) ∧ ansB w' (w.heap.size + 2) T.l a n' k' ∧ Below w.heap.size w w' := by
  have hn := h.len
  have hn8 : n ≤ 8 := by have := hS.2.2.2.2.2.1; omega
  have HSO : Hid (∀ W, Below w.heap.size w W → Calls Tryd.prog 27 #[scV S g n cap] W fun o w' => o = .returned (.bool true) ∧ Below W.heap.size W w') := fun W hW => (soundScan_any W (tab_keep hg hz hz hW) (Nat.lt_of_lt_of_le hz hW.size) S _ n cap hn (by omega)).mono (by rintro o w' ⟨⟨bb, rfl, h1⟩, h2⟩; rw [h1.2 hS]; exact ⟨rfl, h2⟩)
  have HIL : Hid (∀ W, Calls Tryd.prog 28 #[.int .i64 (b : Int)] W fun o w' => o = .returned (.bool true) ∧ w' = W) := fun W => (isLevel_any W b).mono (by rintro o w' ⟨⟨bb, rfl, h1⟩, h2⟩; rw [h1.2 (by omega)]; exact ⟨rfl, h2⟩)
  have HGO : Hid (∀ W, Calls Tryd.prog 31 #[.int .i64 c] W fun o w' => o = .returned (.bool true) ∧ w' = W) := by
    intro W
    refine (goesOn_any W c).mono ?_
    rintro o w' ⟨⟨x, rfl, hx⟩, rfl⟩
    rw [hx.2 hc]
    exact ⟨rfl, rfl⟩
  have HCL : Hid (∀ W, Below w.heap.size w W → Calls Tryd.prog 29 #[.slice g n cap] W fun o w' => ∃ g' k', o = .returned (.slice g' n k') ∧ ownsB w' W.heap.size (.slice g' n k') S.l ∧ Below W.heap.size W w') := fun W hW => clone_any W g n cap S.l ha (h.below hW) (by omega)
  have HTT : Hid (∀ W g' k', W.rangeAt 0 0 tabL → w.heap.size + 2 ≤ W.heap.size → kP W W w.heap.size (w.heap.size + 2) S g' n k' → Calls Tryd.prog 30 #[.pointer (some ⟨w.heap.size, 0, none⟩), .int .i64 (b : Int)] W fun o w' => o = .returned (.int .i64 c) ∧ aP W w' w.heap.size (w.heap.size + 2) T) := HT
  have HTB : Hid (∀ W, Below w.heap.size w W → W.rangeAt 0 0 tabL) := fun W hW => tab_keep hg hz hz hW
  have HL : Hid (n = S.l.length) := hn
  clear HT hg hz h hS hn hc ha
  obtain ⟨f, lf, rn, lv, cr, ac, e, i, r, d, l⟩ := S
  have H0 : Hid (blk ((w.alloc (.cells (scL ⟨f, lf, rn, lv, cr, ac, e, i, r, d, l⟩ g n cap).toArray 31)).alloc (.cells z11.toArray 31)) w.heap.size (scL ⟨f, lf, rn, lv, cr, ac, e, i, r, d, l⟩ g n cap) 31 ∧ blk ((w.alloc (.cells (scL ⟨f, lf, rn, lv, cr, ac, e, i, r, d, l⟩ g n cap).toArray 31)).alloc (.cells z11.toArray 31)) (w.heap.size + 1) ([] ++ z11 ++ []) 31 ∧ Below w.heap.size w ((w.alloc (.cells (scL ⟨f, lf, rn, lv, cr, ac, e, i, r, d, l⟩ g n cap).toArray 31)).alloc (.cells z11.toArray 31))) := by
    refine ⟨(blk.new w _ 31).alloc _, ?_, ((Below.refl _ _).alloc (Nat.le_refl _) _).alloc (by simp) _⟩
    have := blk.new (w.alloc (.cells (scL ⟨f, lf, rn, lv, cr, ac, e, i, r, d, l⟩ g n cap).toArray 31)) z11 31
    simpa using this
  go_enter Tryd.func8, Tryd.ntmps8
  go_upto_region 1 with fail
  go_cut [14] (fun s14 wx => s14 = .bool false ∧ blk wx w.heap.size (scL ⟨f, lf, rn, lv, cr, ac, e, i, r, d, l⟩ g n cap) 31 ∧ blk wx (w.heap.size + 1) ([] ++ z11 ++ []) 31 ∧ Below w.heap.size w wx)
  case first =>
    go_wp2_with (first | (refine wpList_load_mid (P := Tryd.prog) rfl 31 (.tmp 2) rfl w.heap.size 0 rfl _ _ H0.out.1.load Tryd.underlying31 rfl sz31 ?_))
    refine (HSO.out _ H0.out.2.2).mono ?_
    rintro o w1 ⟨rfl, hb1⟩
    have H1 : Hid (blk w1 w.heap.size (scL ⟨f, lf, rn, lv, cr, ac, e, i, r, d, l⟩ g n cap) 31 ∧ blk w1 (w.heap.size + 1) ([] ++ z11 ++ []) 31 ∧ Below w.heap.size w w1) := ⟨H0.out.1.below hb1, H0.out.2.1.below hb1, H0.out.2.2.trans (hb1.mono H0.out.2.2.size)⟩
    clear hb1
    go_wp2_with fail
    refine (HIL.out _).mono ?_
    rintro o w2 ⟨rfl, rfl⟩
    go_wp2_with fail
    go_meet
    exact ⟨rfl, H1.out⟩
  case rest =>
    obtain ⟨rfl, h1⟩ := hcut
    have H1 : Hid (blk wc w.heap.size (scL ⟨f, lf, rn, lv, cr, ac, e, i, r, d, l⟩ g n cap) 31 ∧ blk wc (w.heap.size + 1) ([] ++ z11 ++ []) 31 ∧ Below w.heap.size w wc) := h1
    have z10 := h1.1.cell 10 _ rfl
    clear h1
    go_wp2_with fail
    refine (HCL.out _ H1.out.2.2).mono ?_
    rintro o w2 ⟨g', k', rfl, ho2, hb2⟩
    have H2 : Hid (blk w2 w.heap.size (scL ⟨f, lf, rn, lv, cr, ac, e, i, r, d, l⟩ g n cap) 31 ∧ blk w2 (w.heap.size + 1) ([] ++ z11 ++ []) 31 ∧ Below w.heap.size w w2) := ⟨H1.out.1.below hb2, H1.out.2.1.below hb2, H1.out.2.2.trans (hb2.mono H1.out.2.2.size)⟩
    have y10 := H2.out.1.cell 10 _ rfl
    have x10 := H2.out.1.free 10
    have H3 : Hid (blk (w2.setCell ⟨w.heap.size, 10, none⟩ (.slice g' n k')) w.heap.size (scL ⟨f, lf, rn, lv, cr, ac, e, i, r, d, l⟩ g' n k') 31 ∧ blk (w2.setCell ⟨w.heap.size, 10, none⟩ (.slice g' n k')) (w.heap.size + 1) ([] ++ z11 ++ []) 31 ∧ Below w.heap.size w (w2.setCell ⟨w.heap.size, 10, none⟩ (.slice g' n k'))) := ⟨H2.out.1.set 10 _, H2.out.2.1.setOther (by omega) _ _, H2.out.2.2.setCell (by exact Nat.le_refl _) _⟩
    have HK3 : Hid (kP (w2.setCell ⟨w.heap.size, 10, none⟩ (.slice g' n k')) (w2.setCell ⟨w.heap.size, 10, none⟩ (.slice g' n k')) w.heap.size (w.heap.size + 2) ⟨f, lf, rn, lv, cr, ac, e, i, r, d, l⟩ g' n k') := by
      have h12 := H1.out.2.1.lt
      refine ⟨H3.out.1, ?_, HL.out, Below.refl _ _, fun _ _ _ => rfl, by have := H2.out.2.1.lt; simp; omega⟩
      exact ownsB_set (ho2.mono (by omega)) (by omega) _ _
    have hsz : w.heap.size + 2 ≤ (w2.setCell ⟨w.heap.size, 10, none⟩ (.slice g' n k')).heap.size := H3.out.2.1.lt
    have HSZ : Hid (w.heap.size + 2 ≤ (w2.setCell ⟨w.heap.size, 10, none⟩ (.slice g' n k')).heap.size) := hsz
    clear ho2 hb2 H1 z10 hsz
    go_wp2_with fail
    refine (HTT.out _ g' k' (HTB.out _ H3.out.2.2) HSZ.out HK3.out).mono ?_
    rintro o w4 ⟨rfl, ha4⟩
    obtain ⟨a, n', k2, hq4, han, hb4, hr4⟩ : ∃ a n' k2, blk w4 w.heap.size (scL T a n' k2) 31 ∧ ansB w4 (w.heap.size + 2) T.l a n' k2 ∧ Below w.heap.size w w4 ∧ blk w4 (w.heap.size + 1) ([] ++ z11 ++ []) 31 := by
      rcases ha4 with ⟨g2, n2, k2, hk⟩ | ⟨h1, h2, h3, h4⟩
      · exact ⟨_, n2, k2, hk.q, ansO hk.o hk.l, H3.out.2.2.trans hk.b, H3.out.2.1.kept (hk.r _ (by omega) (by omega))⟩
      · exact ⟨none, 0, 0, h2, Or.inr ⟨rfl, rfl, rfl, h1⟩, H3.out.2.2.trans h3, H3.out.2.1.kept (h4 _ (by omega) (by omega))⟩
    have H4 : Hid (blk w4 w.heap.size (scL T a n' k2) 31 ∧ ansB w4 (w.heap.size + 2) T.l a n' k2 ∧ Below w.heap.size w w4 ∧ blk w4 (w.heap.size + 1) ([] ++ z11 ++ []) 31) := ⟨hq4, han, hb4, hr4⟩
    clear ha4 hq4 han hb4 hr4
    obtain ⟨tf, tlf, trn, tlv, tcr, tac, te, ti, tr, td, tl⟩ := T
    go_wp2_with fail
    refine (HGO.out _).mono ?_
    rintro o w5 ⟨rfl, rfl⟩
    go_wp2_with (first
      | (refine wpList_load_mid (P := Tryd.prog) rfl 31 (.tmp 2) rfl w.heap.size 0 rfl _ _ H4.out.1.load Tryd.underlying31 rfl sz31 ?_)
      | (refine wpList_store_mid (P := Tryd.prog) rfl 31 (.tmp 4) (.tmp 29) rfl (w.heap.size + 1) 0 _ rfl rfl (H4.out.2.2.2.there 0 11 (by simp)) sz31 (one11 _ _ _ _ _ _ _ _ _ _ _ _ _) ?_; generalize hW9 : World.setCells _ (w.heap.size + 1) 0 _ = w9; have HW9 : Hid (World.setCells w5 (w.heap.size + 1) 0 (scL ⟨tf, tlf, trn, tlv, tcr, tac, te, ti, tr, td, tl⟩ a n' k2) = w9) := hW9; clear hW9))
    have e9 := HW9.out
    have hF : blk w9 (w.heap.size + 1) (scL ⟨tf, tlf, trn, tlv, tcr, tac, te, ti, tr, td, tl⟩ a n' k2) 31 := e9 ▸ blk.put [] z11 [] _ H4.out.2.2.2 rfl
    have hL := run_loadVar_mid (P := Tryd.prog) w9 (w.heap.size + 1) 0 31 _ _ hF.load Tryd.underlying31 rfl sz31
    refine bodyPost_ret (results_cell_tmp Tryd.results8 _ w9 (w.heap.size + 1) _ rfl hL) rfl ?_
    refine ⟨a, n', k2, rfl, ?_, e9 ▸ setCells_below (by omega) _ _ H4.out.2.2.1⟩
    rw [← e9]
    rcases H4.out.2.1 with ⟨g2, h1, h2, h3⟩ | h
    · have := World.ownsRow.lt h2 g2 rfl
      exact Or.inl ⟨g2, h1, h2.keep h3 (setCells_other _ _ (by omega) _ _ _), h3⟩
    · exact Or.inr h
end Go.Proofs.YtjmlalojfghkiaaDoor.G
namespace Go.Proofs.YtjmlalojfghkiaaDoor
open Go.RowKit
set_option linter.unusedVariables false
theorem dataZ_len (l : List Nat) (lf : Int) (b : Nat) : (dataZ l lf b).length ≤ l.length + 1 := by
  unfold dataZ
  split
  · simp
  · simp
theorem dataZ_small (l : List Nat) (lf : Int) (b : Nat) (hb : b < 2) (hs : ∀ x ∈ l, x < 256) : ∀ x ∈ dataZ l lf b, x < 256 := by
  intro x hx
  unfold dataZ at hx
  split at hx
  · rcases List.mem_append.1 hx with h | h
    · exact hs x h
    · simp at h; omega
  · rcases List.mem_or_eq_of_mem_set hx with h | h
    · exact hs x h
    · subst h; exact Nat.mod_lt _ (by decide)
theorem feedZ_l (S : Sc) (b : Nat) : (feedZ S b).l = S.l ∨ (feedZ S b).l = dataZ S.l S.lf b := by
  unfold feedZ
  split
  · exact Or.inl rfl
  split
  · exact Or.inl rfl
  split
  · exact Or.inl rfl
  split
  · exact Or.inl rfl
  split
  · exact Or.inr rfl
  exact Or.inl rfl
theorem nextT_l (T : Sc) : (nextT T).l = T.l ∨ (nextT T).l = [] := by
  unfold nextT
  split
  · by_cases h : afterZ T.f T.e T.r T.d = 9
    · exact Or.inr (if_pos h)
    · exact Or.inl (if_neg h)
  · exact Or.inl rfl
theorem before_l (S : Sc) (b : Nat) : (accT (sumT (hearT S b) b) b).l = S.l := by
  unfold accT sumT hearT
  repeat' split
  all_goals rfl
theorem stepT_l (S : Sc) (b : Nat) (hb : b < 2) (hs : ∀ x ∈ S.l, x < 256) (hn : S.l.length ≤ 8) : (stepT S b).l.length ≤ 9 ∧ ∀ x ∈ (stepT S b).l, x < 256 := by
  have hB := before_l S b
  unfold stepT
  generalize accT (sumT (hearT S b) b) b = U at *
  rcases nextT_l (feedZ U b) with h | h
  · rw [h]
    rcases feedZ_l U b with h2 | h2
    · rw [h2, hB]; exact ⟨by omega, hs⟩
    · rw [h2, hB]; exact ⟨by have := dataZ_len S.l U.lf b; omega, dataZ_small _ _ _ hb hs⟩
  · rw [h]; exact ⟨by simp, by simp⟩
theorem ansB.mono {w : World} {B B' : Nat} {l : List Nat} {a : Option Addr} {n k : Nat} (h : ansB w B l a n k) (hb : B' ≤ B) : ansB w B' l a n k := by
  rcases h with ⟨g, h1, h2, h3⟩ | h
  · exact Or.inl ⟨g, h1, h2.mono hb, h3⟩
  · exact Or.inr h
/-- the two scanners, side by side -/
structure SC (S : Sc) (bit : Int) (T : Sc) (c : Int) : Prop where
  len : T.l.length ≤ 9
  small : ∀ x ∈ T.l, x < 256
  sp : ∀ (w : World) (a : Option Addr) (n cap : Nat), isBytes w a n cap S.l → n ≤ 1048576 → Calls Tryd.prog 6 #[scV S a n cap, .int .i64 bit] w fun o w' => ∃ ao n' k', o = .returned (.tuple #[scV T ao n' k', .int .i64 c]) ∧ isBytes w' ao n' k' T.l ∧ Below w.heap.size w w'
  im : ∀ (w : World) (g n cap : Nat), w.rangeAt 0 0 tabL → 0 < w.heap.size → isBytes w (some ⟨g, 0, none⟩) n cap S.l → n ≤ 1048576 → Calls Tryd.prog 8 #[scV S (some ⟨g, 0, none⟩) n cap, .int .i64 bit] w fun o w' => ∃ a n' k', o = .returned (.tuple #[scV T a n' k', .int .i64 c]) ∧ ansB w' w.heap.size T.l a n' k' ∧ Below w.heap.size w w'
theorem SC_end (S : Sc) (bit c : Int)
    (h1 : ∀ (w : World) (a : Option Addr) (n cap : Nat), isBytes w a n cap S.l → n ≤ 1048576 → Calls Tryd.prog 6 #[scV S a n cap, .int .i64 bit] w fun o w' => o = .returned (.tuple #[scV scZ none 0 0, .int .i64 c]) ∧ Below w.heap.size w w')
    (h2 : ∀ (w : World) (g n cap : Nat), w.rangeAt 0 0 tabL → 0 < w.heap.size → isBytes w (some ⟨g, 0, none⟩) n cap S.l → n ≤ 1048576 → Calls Tryd.prog 8 #[scV S (some ⟨g, 0, none⟩) n cap, .int .i64 bit] w fun o w' => o = .returned (.tuple #[scV scZ none 0 0, .int .i64 c]) ∧ Below w.heap.size w w') : SC S bit scZ c := by
  refine ⟨by simp, by simp, fun w a n cap h hn => (h1 w a n cap h hn).mono ?_, fun w g n cap hg hz h hn => (h2 w g n cap hg hz h hn).mono ?_⟩
  · rintro o w' ⟨rfl, hb⟩
    exact ⟨none, 0, 0, rfl, scZ_bytes _, hb⟩
  · rintro o w' ⟨rfl, hb⟩
    exact ⟨none, 0, 0, rfl, Or.inr ⟨rfl, rfl, rfl, rfl⟩, hb⟩
theorem okS_bd (S : Sc) (hS : okS S) (hs : ∀ x ∈ S.l, x < 256) : bd S := by
  obtain ⟨h1, h2, h3, h4, h5, h6, h7, h8, h9, h10, h11, h12, h13, h14, h15, h16, h17, h18, h19⟩ := hS
  have hsz := sizeZ_le S.f S.e S.d h4 h5
  refine ⟨h1, h2, h3, h4, h5, h6, h7, by omega, h15, h16, h17, h18, hs, fun h9' h8' => ?_⟩
  obtain ⟨q1, q2, q3⟩ := h19 h9'
  have hm : sizeZ S.f S.e S.d % 8 = 0 := by rw [h9']; unfold sizeZ; simp; split <;> omega
  omega
theorem SC_is (S : Sc) (bit : Int) (hs : ∀ x ∈ S.l, x < 256) : ∃ T c, SC S bit T c := by
  by_cases hok : okS S ∧ (bit = 0 ∨ bit = 1)
  · obtain ⟨hS, hbit⟩ := hok
    obtain ⟨b, hb, rfl⟩ : ∃ b : Nat, b < 2 ∧ bit = (b : Int) := by
      rcases hbit with rfl | rfl
      · exact ⟨0, by decide, rfl⟩
      · exact ⟨1, by decide, rfl⟩
    have hl8 : S.l.length ≤ 8 := hS.2.2.2.2.2.1
    have hlf : 1 ≤ S.lf := hS.2.2.2.2.2.2.1
    by_cases h5 : S.rn = 5
    · by_cases hv : (b : Int) = S.lv
      · exact ⟨scZ, 3, SC_end S _ _ (fun w a n cap h hn => specScan_stuff w S hS a n cap h b hb h5 hv) (fun w g n cap hg hz h hn => implScan_no w hg hz S hS g n cap h b hb 3 (by decide) (fun W g' k' hW => (take_stuff W _ S _ n k' hW b h5 hv).mono (by rintro o w' ⟨rfl, rfl⟩; exact ⟨rfl, Below.refl _ _⟩)))⟩
      · refine ⟨{ S with rn := 1, lv := b }, 0, by show S.l.length ≤ 9; omega, hs, fun w a n cap h hn => specScan_due w S hS a n cap h b hb h5 hv, fun w g n cap hg hz h hn => ?_⟩
        refine (implScan_yes w hg hz S hS g n cap h b hb 0 (by decide) { S with rn := 1, lv := b } (fun W g' k' hW hB hk => (take_due W _ _ (by omega) S g' n k' hk b h5 hv).mono ?_)).mono ?_
        · rintro o w' ⟨rfl, hk'⟩
          exact ⟨rfl, Or.inl ⟨_, _, _, hk'⟩⟩
        · rintro o w' ⟨a, n', k', rfl, h1, h2⟩
          exact ⟨a, n', k', rfl, h1.mono (by omega), h2⟩
    · by_cases hc : verdZ S.f S.lf S.cr S.ac b = 0 ∨ verdZ S.f S.lf S.cr S.ac b = 1
      · have hst := stepT_l S b hb hs hl8
        have h13 : S.lf = 1 → S.f ≤ 13 := by
          intro e
          rcases Int.lt_or_le 13 S.f with h | h
          · have hf : S.f = 14 := by have := hS.2.1; omega
            rw [hf, e] at hc
            rcases (by omega : b = 0 ∨ b = 1) with rfl | rfl
            · exact absurd hc (by simp [verdZ])
            · exact absurd hc (by simp [verdZ])
          · exact h
        refine ⟨stepT S b, verdZ S.f S.lf S.cr S.ac b, hst.1, hst.2, fun w a n cap h hn => specScan_main w S hS a n cap h b hb h5 hc, fun w g n cap hg hz h hn => ?_⟩
        refine (implScan_yes w hg hz S hS g n cap h b hb _ hc (stepT S b) (fun W g' k' hW hB hk => take_on W _ _ hz (by omega) hB hW S (okS_bd S hS hs) hS.2.2.2.2.2.2.2.2.1 hS.2.2.2.2.2.2.2.2.2.1 g' n k' hk b hb h5 hc h13)).mono ?_
        rintro o w' ⟨a, n', k', rfl, h1, h2⟩
        exact ⟨a, n', k', rfl, h1.mono (by omega), h2⟩
      · have hc' : verdZ S.f S.lf S.cr S.ac b ≠ 0 ∧ verdZ S.f S.lf S.cr S.ac b ≠ 1 := ⟨fun e => hc (Or.inl e), fun e => hc (Or.inr e)⟩
        exact ⟨scZ, _, SC_end S _ _ (fun w a n cap h hn => specScan_end w S hS a n cap h b hb h5 hc') (fun w g n cap hg hz h hn => implScan_no w hg hz S hS g n cap h b hb _ hc' (fun W g' k' hW => take_end W _ S _ n k' hW hlf b hb h5 hc'))⟩
  · exact ⟨scZ, 8, SC_end S _ _ (fun w a n cap h hn => specScan_bad w S a n cap h.len hn bit hok) (fun w g n cap hg hz h hn => implScan_bad w hg hz S _ n cap h.len hn bit hok)⟩
theorem sz27 : (Tryd.prog.info? 27).map (·.size) = some 11 := by kernel_rfl
theorem sz31L (S : Sc) (a : Option Addr) (n k : Nat) : (Tryd.prog.info? 31).map (·.size) = some (scL S a n k).length := sz31
theorem sz31A (S : Sc) (a : Option Addr) (n k : Nat) : (Tryd.prog.info? 31).map (·.size) = some (scL S a n k).toArray.size := sz31
theorem sz27L (S : Sc) (a : Option Addr) (n k : Nat) : (Tryd.prog.info? 27).map (·.size) = some (scL S a n k).length := sz27
theorem scL_one (S : Sc) (a : Option Addr) (n k : Nat) : (scL S a n k).toArray.all (·.oneCell') = true := all_oneCell_toArray (by simp [scL, Value.oneCell'])
theorem scL_len (S : Sc) (a : Option Addr) (n k : Nat) : (scL S a n k).length = 11 := rfl
/-- what the law keeps: the argument, the model's answer, the table -/
structure lS (w : World) (S : Sc) (a : Option Addr) (n cap : Nat) (P : Nat) (T : Sc) (aw : Option Addr) (nw kw : Nat) (W : World) : Prop where
  p : blk W w.heap.size (scL S a n cap) 27
  q : blk W P (scL T aw nw kw) 31
  o : isBytes W aw nw kw T.l
  b : Below w.heap.size w W
theorem lS.below {w : World} {S : Sc} {a : Option Addr} {n cap P : Nat} {T : Sc} {aw : Option Addr} {nw kw : Nat} {W W' : World} (h : lS w S a n cap P T aw nw kw W) (hb : Below W.heap.size W W') : lS w S a n cap P T aw nw kw W' := ⟨h.p.below hb, h.q.below hb, h.o.below hb, h.b.trans (hb.mono h.b.size)⟩
/-- a new variable that holds a scan -/
theorem new_scan {w : World} {T : TypeId} (l : List Value) (hl : l.length = 11) : blk (World.setCells (w.alloc (.cells z11.toArray T)) w.heap.size 0 l) w.heap.size l T ∧ Below w.heap.size w (World.setCells (w.alloc (.cells z11.toArray T)) w.heap.size 0 l) := by
  refine ⟨?_, setCells_below (Nat.le_refl _) _ _ ((Below.refl _ _).alloc (Nat.le_refl _) _)⟩
  have := blk.put [] z11 [] l (w := w.alloc (.cells z11.toArray T)) (b := w.heap.size) (T := T) (blk.new w z11 T) (by rw [hl]; rfl)
  simpa using this
/-- what lies behind B holds through a world that keeps those blocks -/
theorem ansB_bytes {w : World} {B : Nat} {l : List Nat} {a : Option Addr} {n k : Nat} (h : ansB w B l a n k) (hs : ∀ x ∈ l, x < 256) : St B w (fun W => isBytes W a n k l) := by
  rcases h with ⟨g, rfl, ho, hn⟩ | ⟨rfl, rfl, rfl, rfl⟩
  · obtain ⟨g', k', e, h1, h2, h3⟩ := ownsB_bytes ho (by intro e; cases e) hs
    cases e
    exact h3
  · exact fun W _ => scZ_bytes W
theorem ownsB_row {w : World} {B g n k : Nat} {l : List Nat} (h : ownsB w B (.slice (some ⟨g, 0, none⟩) n k) l) (hn : n = l.length) : B ≤ g ∧ g < w.heap.size ∧ n ≤ k ∧ St B w (fun W => ∃ f, rowB W g n f) := by
  have h' := h
  obtain ⟨g', cap, e, h1, h2, h3, h4⟩ := own_slice h (by intro e; cases e)
  cases e
  refine ⟨h1, h2, by omega, fun W hW => ⟨fun t => l.getD t 0, fun t ht => ?_, fun t ht => ?_⟩⟩
  · rw [h4 W (hW g h1 h2) t (by omega), bv_at l t (by omega)]
    simp [List.getD_eq_getElem?_getD, List.getElem?_eq_getElem (show t < l.length by omega)]
  · have := World.ownsRow.frozenAt h' t
    unfold World.frozen? at this ⊢
    rw [hW g h1 h2]
    exact this
/-- mark and held of an answer -/
theorem ansB_mark {w : World} {B : Nat} {T : Sc} {a : Option Addr} {n k : Nat} (h : ansB w B T.l a n k) (hB : B ≤ w.heap.size) (hn : T.l.length ≤ 9) :
    St B w (fun W => w.heap.size ≤ W.heap.size → Calls Tryd.prog 10 #[scV T a n k, .int .i64 1] W fun o W' => (∃ q : Nat, o = .returned (.int .i64 (q : Int)) ∧ (∀ b, b < B → W'.heap[b]? = W.heap[b]?) ∧ W.heap.size ≤ W'.heap.size ∧ (∀ b, w.heap.size ≤ b → b < W.heap.size → W'.heap[b]? = W.heap[b]?) ∧ Below B W W' ∧
      Calls Tryd.prog 11 #[scV T a n k, .int .i64 1] W' fun o W'' => o = .returned (.int .i64 (q : Int)) ∧ Below W'.heap.size W' W'')) := by
  rcases h with ⟨g, rfl, ho, hl⟩ | ⟨rfl, rfl, rfl, hl⟩
  · obtain ⟨h1, h2, h3, h4⟩ := ownsB_row ho hl
    intro W hW hsz
    obtain ⟨f, hf⟩ := h4 W hW
    have hgW : g < W.heap.size := Nat.lt_of_lt_of_le h2 hsz
    refine (markScan_row W T g n k 1 f hf hgW h3 (by omega) (by decide)).mono ?_
    rintro o W' ⟨rfl, hm⟩
    have hs := hm.bel.size
    refine ⟨1 + n, rfl, fun b hb => hm.oth b (by omega) (by omega), hs, fun b hb hb2 => hm.oth b (by omega) hb2, hm.bel.mono h1, ?_⟩
    exact (heldScan_row W' T g n k 1 hm.row (by omega) h3 (by omega) (by decide))
  · intro W hW hsz
    refine (markScan_nil W T 1).mono ?_
    rintro o W' ⟨rfl, hb⟩
    refine ⟨1, rfl, fun b hb' => hb.block b (by omega), hb.size, fun b _ h => hb.block b h, hb.mono (by omega), heldScan_nil W' T 1⟩
end Go.Proofs.YtjmlalojfghkiaaDoor
