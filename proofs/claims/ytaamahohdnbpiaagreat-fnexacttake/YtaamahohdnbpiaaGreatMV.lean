import Derived.Test.YtaamahohdnbpiaaGreatMU
namespace Go.Proofs.YtaamahohdnbpiaaGreat
open Go.RowKit
set_option linter.unusedVariables false

abbrev zHo : Ho := ⟨0, 0, 0, 0, [], [], [], [], 0, 0⟩
abbrev zSl : Sl := ⟨none, 0, 0, none, 0, 0, none, 0, 0, none, 0, 0⟩
theorem zHo_is (W : World) : isHo W zHo zSl := ⟨⟨rfl, Nat.le_refl _, fun e => absurd rfl e⟩, ⟨rfl, Nat.le_refl _, fun e => absurd rfl e⟩, ⟨rfl, Nat.le_refl _, fun e => absurd rfl e⟩, ⟨rfl, Nat.le_refl _, fun e => absurd rfl e⟩⟩
/-- what Take answers -/
def takeRel (H : Ho) (i : Int) (T : Ho) : Prop := (okHo H ∧ T = takeHo H i) ∨ (¬ okHo H ∧ T = zHo)
theorem takeRel_ex (H : Ho) (i : Int) : ∃ T, takeRel H i T := by
  rcases Classical.em (okHo H) with h | h
  · exact ⟨_, Or.inl ⟨h, rfl⟩⟩
  · exact ⟨_, Or.inr ⟨h, rfl⟩⟩
theorem takeRel.yes {H : Ho} {i : Int} {T : Ho} (h : takeRel H i T) (hok : okHo H) : T = takeHo H i := by
  rcases h with ⟨_, e⟩ | ⟨h, _⟩
  · exact e
  · exact absurd hok h
theorem takeRel.no {H : Ho} {i : Int} {T : Ho} (h : takeRel H i T) (hok : ¬ okHo H) : T = zHo := by
  rcases h with ⟨h, _⟩ | ⟨_, e⟩
  · exact absurd h hok
  · exact e
theorem copyL (W : World) (H : Ho) (s : Sl) (h : isHo W H s) (hn : H.le 1048576) : Calls Tryz.prog 71 #[.agg (hoL H s).toArray] W fun o w' => ∃ s' gx, o = .returned (.agg (hoL H s').toArray) ∧ s'.a2 = some ⟨gx, 0, none⟩ ∧ W.heap.size ≤ gx ∧ s'.n2 = H.bx.length ∧ (St (W.heap.size + 3) w' (fun V => isHo V H s') ∧ rowF w' gx (s'.n2 * 8)) ∧ ((∀ g, s'.a3 = some ⟨g, 0, none⟩ ∨ s'.a4 = some ⟨g, 0, none⟩ → gx ≠ g) ∧ (∃ x, s'.a3 = some ⟨x, 0, none⟩) ∧ (∃ x, s'.a4 = some ⟨x, 0, none⟩)) ∧ Below W.heap.size W w' := by
  rw [← hoV_L]
  refine (l3copy_wr W H s h hn).mono ?_
  rintro o w' ⟨s', gx, rfl, e1, e2, h1, h2, h3⟩
  exact ⟨s', gx, by rw [hoV_L], e1, e2, h1.now.1.bx.len, ⟨fun V hV => (h1 V hV).1, h1.now.2⟩, h2, h3⟩
theorem okHo.pos {H : Ho} (h : okHo H) : 1 ≤ H.bx.length := by
  have h1 := of_decide_eq_true h.cf
  have h2 := h.nb
  omega
theorem okL (W : World) (H : Ho) (s : Sl) (h : isHo W H s) (hn : H.le 1048576) (hok : okHo H) : Calls Tryz.prog 72 #[.agg (hoL H s).toArray] W fun o w' => o = .returned (.bool true) ∧ Below W.heap.size W w' := (l3ok_any W H s h hn).mono (by rintro o w' ⟨⟨b, rfl, hb⟩, h2⟩; rw [hb.2 hok]; exact ⟨rfl, h2⟩)
theorem badL (W : World) (H : Ho) (s : Sl) (h : isHo W H s) (hn : H.le 1048576) (hok : ¬ okHo H) : Calls Tryz.prog 72 #[.agg (hoL H s).toArray] W fun o w' => o = .returned (.bool false) ∧ Below W.heap.size W w' := (l3ok_any W H s h hn).mono (by rintro o w' ⟨⟨b, rfl, hb⟩, h2⟩; cases b; exact ⟨rfl, h2⟩; exact absurd (hb.1 rfl) hok)
theorem zHo_L : hoL zHo zSl = [.int .i64 0, .int .i64 0, .int .i64 0, .int .i64 0, .slice none 0 0, .slice none 0 0, .slice none 0 0, .slice none 0 0, .int .i64 0, .int .i64 0] := rfl
set_option maxHeartbeats 4000000 in
set_option maxRecDepth 20000 in
/-- spec.Take -/
theorem specTake_any (w : World) (H : Ho) (s : Sl) (i : Int) (T : Ho) (hR : takeRel H i T) (h : isHo w H s) (hn : H.le 1048576) :
    Calls Tryz.prog 29 #[.agg (hoL H s).toArray, .int .i64 i] w fun o w' => ∃ s', o = .returned (.agg (hoL T s').toArray) ∧ isHo w' T s' ∧ Below w.heap.size w w' := by
  have H0 : Hid (dtS w H s ((w.alloc (.cells (hoL H s).toArray 35)).alloc (.cells [.int .i64 0, .int .i64 0, .int .i64 0, .int .i64 0, .slice none 0 0, .slice none 0 0, .slice none 0 0, .slice none 0 0, .int .i64 0, .int .i64 0].toArray 35))) := dtS.new w H s
  have HR : Hid (takeRel H i T) := hR
  clear hR
  by_cases hok : okHo H
  · have HV : Hid (∀ W, Below w.heap.size w W → Calls Tryz.prog 72 #[.agg (hoL H s).toArray] W fun o w' => o = .returned (.bool true) ∧ Below W.heap.size W w') := fun W hW => okL W H s (h.below hW) hn hok
    have HC : Hid (∀ W, Below w.heap.size w W → Calls Tryz.prog 71 #[.agg (hoL H s).toArray] W fun o w' => ∃ s' gx, o = .returned (.agg (hoL H s').toArray) ∧ s'.a2 = some ⟨gx, 0, none⟩ ∧ W.heap.size ≤ gx ∧ s'.n2 = H.bx.length ∧ (St (W.heap.size + 3) w' (fun V => isHo V H s') ∧ rowF w' gx (s'.n2 * 8)) ∧ ((∀ g, s'.a3 = some ⟨g, 0, none⟩ ∨ s'.a4 = some ⟨g, 0, none⟩ → gx ≠ g) ∧ (∃ x, s'.a3 = some ⟨x, 0, none⟩) ∧ (∃ x, s'.a4 = some ⟨x, 0, none⟩)) ∧ Below W.heap.size W w') := fun W hW => copyL W H s (h.below hW) hn
    have HOK : Hid (okHo H) := hok
    clear h hn hok
    go_enter Tryz.func29, Tryz.ntmps29
    go_wp2_with (first
      | (refine wpList_load_mid (P := Tryz.prog) rfl 35 (.tmp 2) rfl w.heap.size 0 rfl _ _ H0.out.p.load Tryz.underlying35 rfl (sz41L H s) ?_))
    refine (HV.out _ H0.out.b).mono ?_
    rintro o w1 ⟨rfl, hb1⟩
    have H1 : Hid (dtS w H s w1) := H0.out.below hb1
    clear H0 hb1
    go_wp2_with (first
      | (refine wpList_load_mid (P := Tryz.prog) rfl 35 (.tmp 2) rfl w.heap.size 0 rfl _ _ H1.out.p.load Tryz.underlying35 rfl (sz41L H s) ?_))
    refine (HC.out _ H1.out.b).mono ?_
    rintro o w2 ⟨s2, gx, rfl, e1, e2, e3, ⟨e4, e5⟩, e6, hb2⟩
    have hn2 : s2.n2 ≤ 8 := by rw [e3]; exact HOK.out.n2
    have hp2 : 1 ≤ s2.n2 := by rw [e3]; exact HOK.out.pos
    have hgx : gx < w2.heap.size := by
      obtain ⟨⟨v, hv⟩, _⟩ := e5 0 (by omega)
      exact World.block_lt_of_cell? w2 _ hv
    have HD : Hid (Calls Tryz.prog 78 #[.agg (hoL H s2).toArray, .int .i64 i] w2 fun o w' => o = .returned (.agg (hoL H s2).toArray) ∧ St w1.heap.size w' (fun W => isHo W (takeHo H i) s2) ∧ Below w1.heap.size w2 w') := l3doTake_any w1.heap.size w2 H s2 i gx (e4.mono (by omega)) e1 e5 e6 (by omega) e2 hb2.size hgx
    have H2 : Hid (dtS w H s w2) := H1.out.below hb2
    have HZ2 : Hid (w.heap.size + 1 < w1.heap.size) := H1.out.r.lt
    have HZB : Hid (w1.heap.size ≤ w2.heap.size) := hb2.size
    clear e1 e2 e3 e4 e5 e6 hb2 hn2 hp2 hgx H1 HC HV
    go_wp2_with fail
    refine HD.out.mono ?_
    rintro o w3 ⟨rfl, q1, q2⟩
    have H3 : Hid (dtP w H s w3) := ⟨H2.out.p.kept (q2.block _ (by have := HZ2.out; omega)), H2.out.r.kept (q2.block _ HZ2.out)⟩
    have HB3 : Hid (Below w.heap.size w w3) := H2.out.b.trans (q2.mono (by have := HZ2.out; omega))
    have HST : Hid (St w1.heap.size w3 (fun W => isHo W (takeHo H i) s2)) := q1
    clear q1 q2 H2 HD
    go_wp2_with (first
      | (refine wpList_store_mid (P := Tryz.prog) rfl 35 (.tmp 4) _ rfl (w.heap.size + 1) 0 (hoL H s2).toArray rfl rfl (H3.out.r.there 0 _ (by rw [List.size_toArray, hoL_len]; decide)) (sz41A H s2) (hoL_one H s2) ?_; generalize hW8 : World.setCells _ (w.heap.size + 1) 0 _ = w8; have HW8 : Hid (_ = w8) := hW8; clear hW8))
    have e8 := HW8.out
    have hF : blk w8 (w.heap.size + 1) (hoL H s2) 35 := by
      rw [← e8]
      have := blk.put [] Z10 [] (hoL H s2) (w := w3) (b := w.heap.size + 1) (T := 35) (by simpa using H3.out.r) (by rw [hoL_len]; rfl)
      simpa using this
    have hL := run_loadVar_mid (P := Tryz.prog) w8 (w.heap.size + 1) 0 35 _ _ hF.load Tryz.underlying35 rfl (sz41L H s2)
    refine bodyPost_ret (v := .agg (hoL H s2).toArray) (results_cell Tryz.results29 _ w8 (w.heap.size + 1) _ rfl hL) rfl ?_
    have hR := HR.out.yes HOK.out
    subst hR
    refine ⟨s2, by rw [takeHo_hoL], HST.out _ (fun x h1 h2 => ?_), ?_⟩
    · rw [← e8]
      exact setCells_other _ x (by have := HZ2.out; omega) _ _ _
    · rw [← e8]
      exact setCells_below (by omega) 0 _ HB3.out
  · have HV : Hid (∀ W, Below w.heap.size w W → Calls Tryz.prog 72 #[.agg (hoL H s).toArray] W fun o w' => o = .returned (.bool false) ∧ Below W.heap.size W w') := fun W hW => badL W H s (h.below hW) hn hok
    have HOK : Hid (¬ okHo H) := hok
    clear h hn hok
    go_enter Tryz.func29, Tryz.ntmps29
    go_wp2_with (first
      | (refine wpList_load_mid (P := Tryz.prog) rfl 35 (.tmp 2) rfl w.heap.size 0 rfl _ _ H0.out.p.load Tryz.underlying35 rfl (sz41L H s) ?_))
    refine (HV.out _ H0.out.b).mono ?_
    rintro o w1 ⟨rfl, hb1⟩
    have H1 : Hid (dtS w H s w1) := H0.out.below hb1
    clear H0 hb1
    go_wp2_with (first
      | (refine wpList_store_mid (P := Tryz.prog) rfl 35 (.tmp 4) (.tmp 8) rfl (w.heap.size + 1) 0 [.int .i64 0, .int .i64 0, .int .i64 0, .int .i64 0, .slice none 0 0, .slice none 0 0, .slice none 0 0, .slice none 0 0, .int .i64 0, .int .i64 0].toArray rfl rfl (H1.out.r.there 0 10 (by simp [Z10])) sz41 (all_oneCell_toArray (by simp [Value.oneCell'])) ?_; generalize hW8 : World.setCells _ (w.heap.size + 1) 0 _ = w8; have HW8 : Hid (_ = w8) := hW8; clear hW8))
    have e8 := HW8.out
    have hF : blk w8 (w.heap.size + 1) [.int .i64 0, .int .i64 0, .int .i64 0, .int .i64 0, .slice none 0 0, .slice none 0 0, .slice none 0 0, .slice none 0 0, .int .i64 0, .int .i64 0] 35 := by
      rw [← e8]
      have := blk.put [] Z10 [] [.int .i64 0, .int .i64 0, .int .i64 0, .int .i64 0, .slice none 0 0, .slice none 0 0, .slice none 0 0, .slice none 0 0, .int .i64 0, .int .i64 0] (w := w1) (b := w.heap.size + 1) (T := 35) (by simpa using H1.out.r) rfl
      simpa using this
    have hL := run_loadVar_mid (P := Tryz.prog) w8 (w.heap.size + 1) 0 35 _ _ hF.load Tryz.underlying35 rfl sz41
    refine bodyPost_ret (v := .agg [.int .i64 0, .int .i64 0, .int .i64 0, .int .i64 0, .slice none 0 0, .slice none 0 0, .slice none 0 0, .slice none 0 0, .int .i64 0, .int .i64 0].toArray) (results_cell Tryz.results29 _ w8 (w.heap.size + 1) _ rfl hL) rfl ?_
    have hR := HR.out.no HOK.out
    subst hR
    refine ⟨zSl, by rw [zHo_L], zHo_is _, ?_⟩
    rw [← e8]
    exact setCells_below (by omega) 0 _ H1.out.b
end Go.Proofs.YtaamahohdnbpiaaGreat
