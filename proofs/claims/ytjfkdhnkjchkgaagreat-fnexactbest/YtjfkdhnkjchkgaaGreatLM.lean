import Derived.Test.YtjfkdhnkjchkgaaGreatLL
namespace Go.Proofs.YtjfkdhnkjchkgaaGreat
open Go.RowKit
set_option linter.unusedVariables false
/-- filters and boxes lie in rows of their own -/
def slSome (s : Sl) : Prop := (∃ g, s.a1 = some ⟨g, 0, none⟩) ∧ (∃ g, s.a2 = some ⟨g, 0, none⟩)
set_option maxHeartbeats 4000000 in
set_option maxRecDepth 20000 in
theorem toHost_some (w : World) (H : Ho) (s : Sl) (h : isHo w H s) (hn : H.le 1048576) :
    Calls Tryz.prog 36 #[hoV H s] w fun o w' => ∃ s', o = .returned (hoV H s') ∧ slSome s' ∧ St w.heap.size w' (fun W => isHo W H s') ∧ Below w.heap.size w w' := by
  have HH : Hid (isHo w H s) := h
  have HN : Hid (H.le 1048576) := hn
  clear h hn
  obtain ⟨c0, c1, c2, c3, fs, bx, ff, qu, lo, st⟩ := H
  obtain ⟨a1, n1, k1, a2, n2, k2, a3, n3, k3, a4, n4, k4⟩ := s
  go_enter Tryz.func36, Tryz.ntmps36
  go_wp2_with (first | (go_at_call 86; refine (toConfig_any _ _ _ _ _).mono ?_; rintro o w1 ⟨rfl, hb1⟩; obtain ⟨cp1, cr1, co1, fr1, fo1⟩ := keep3 (b := w.heap.size) hb1 (by simp); have HB1 : Hid (Below w.heap.size w w1) := ((((Below.refl w.heap.size w).alloc (Nat.le_refl _) _).alloc (by simp) _).alloc (by simp; omega) _).trans (hb1.mono (by simp; omega)); have HZ1 : Hid (w.heap.size + 3 ≤ w1.heap.size) := (by have := hb1.size; simp at this; exact this); clear hb1) | (go_at_call 87; refine (callFilter (by (repeat refine Below.setCell ?_ (by simp; try omega) _); exact HB1.out) (by simpa using HZ1.out) HH.out.fs HN.out.fs).mono ?_; rintro o w2 ⟨g2, rfl, S2, X2, B2, Z2, K2⟩; obtain ⟨cp2, cr2, co2, fr2, fo2⟩ := K2; have HS2 : Hid _ := S2; have HX2 : Hid _ := X2; have HB2 : Hid (Below w.heap.size w w2) := B2; have HZ2 : Hid (w.heap.size + 3 ≤ w2.heap.size) := Z2; clear S2 X2 B2 Z2) | (go_at_call 88; refine (callBox (by (repeat refine Below.setCell ?_ (by simp; try omega) _); exact HB2.out) (by simpa using HZ2.out) HH.out.bx HN.out.bx HN.out.bd).mono ?_; rintro o w3 ⟨g3, rfl, S3, X3, B3, Z3, K3⟩; obtain ⟨cp3, cr3, co3, fr3, fo3⟩ := K3; have HS3 : Hid _ := S3; have HX3 : Hid _ := X3; have HB3 : Hid (Below w.heap.size w w3) := B3; have HZ3 : Hid (w.heap.size + 3 ≤ w3.heap.size) := Z3; clear S3 X3 B3 Z3) | (go_at_call 89; refine (callFrame (by (repeat refine Below.setCell ?_ (by simp; try omega) _); exact HB3.out) (by simpa using HZ3.out) HH.out.ff HN.out.ff HN.out.fd).mono ?_; rintro o w4 ⟨g4, rfl, S4, X4, B4, Z4, K4⟩; obtain ⟨cp4, cr4, co4, fr4, fo4⟩ := K4; have HS4 : Hid _ := S4; have HX4 : Hid _ := X4; have HB4 : Hid (Below w.heap.size w w4) := B4; have HZ4 : Hid (w.heap.size + 3 ≤ w4.heap.size) := Z4; clear S4 X4 B4 Z4) | (go_at_call 90; refine (callEvent (by (repeat refine Below.setCell ?_ (by simp; try omega) _); exact HB4.out) (by simpa using HZ4.out) HH.out.qu HN.out.qu HN.out.qd).mono ?_; rintro o w5 ⟨g5, rfl, S5, X5, B5, Z5, K5⟩; obtain ⟨cp5, cr5, co5, fr5, fo5⟩ := K5; have HS5 : Hid _ := S5; have HX5 : Hid _ := X5; have HB5 : Hid (Below w.heap.size w w5) := B5; have HZ5 : Hid (w.heap.size + 3 ≤ w5.heap.size) := Z5; clear S5 X5 B5 Z5))
  refine bodyPost_ret (v := hoV ⟨c0, c1, c2, c3, fs, bx, ff, qu, lo, st⟩ ⟨some ⟨g2, 0, none⟩, n1, n1, some ⟨g3, 0, none⟩, n2, n2, some ⟨g4, 0, none⟩, n3, n3, some ⟨g5, 0, none⟩, n4, n4⟩) (by simp [results, Tryz.results36, go_sem, cr5, cr4, cr3, cr2, cr1]) rfl ?_
  have T2 : St (w.heap.size + 3) w2 (fun W => isR3s W (some ⟨g2, 0, none⟩) n1 n1 fs) := HS2.out
  have T3 : St (w.heap.size + 3) w3 (fun W => isR8s W (some ⟨g3, 0, none⟩) n2 n2 bx) := HS3.out
  have T4 : St (w.heap.size + 3) w4 (fun W => isR5s W (some ⟨g4, 0, none⟩) n3 n3 ff) := HS4.out
  have R5 : St (w.heap.size + 3) w5 (fun W => isR8s W (some ⟨g5, 0, none⟩) n4 n4 qu) := HS5.out
  have R2 := (((((T2.set _ 4 (by omega) _).below HX3.out).set _ 5 (by omega) _).below HX4.out).set _ 6 (by omega) _).below HX5.out
  have R3 := (((T3.set _ 5 (by omega) _).below HX4.out).set _ 6 (by omega) _).below HX5.out
  have R4 := (T4.set _ 6 (by omega) _).below HX5.out
  have R : St (w.heap.size + 3) w5 (fun W => isHo W ⟨c0, c1, c2, c3, fs, bx, ff, qu, lo, st⟩ ⟨some ⟨g2, 0, none⟩, n1, n1, some ⟨g3, 0, none⟩, n2, n2, some ⟨g4, 0, none⟩, n3, n3, some ⟨g5, 0, none⟩, n4, n4⟩) := fun W hW => ⟨R2 W hW, R3 W hW, R4 W hW, R5 W hW⟩
  refine ⟨_, rfl, ⟨⟨g2, rfl⟩, ⟨g3, rfl⟩⟩, St.mono ?_ (Nat.le_add_right _ 3), ?_⟩
  · repeat refine St.set ?_ _ _ (by omega) _
    exact R
  · repeat refine Below.setCell ?_ (by simp; try omega) _
    exact HB5.out

/-- what Best answers -/
def bestH (H : Ho) (r : Int) : Prop := (okHo H ∧ bestR H.bx r) ∨ (¬ okHo H ∧ r = -1)
theorem bestH_one {H : Ho} {r r' : Int} (h : bestH H r) (h' : bestH H r') : r = r' := by
  rcases h with ⟨h1, h2⟩ | ⟨h1, h2⟩ <;> rcases h' with ⟨h3, h4⟩ | ⟨h3, h4⟩
  · exact bestR_one h2 h4
  · exact absurd h1 h3
  · exact absurd h3 h1
  · rw [h2, h4]
theorem okHo.n2 {H : Ho} (h : okHo H) : H.bx.length ≤ 8 := by
  have h1 := of_decide_eq_true h.cf
  have h2 := h.nb
  omega
set_option maxHeartbeats 4000000 in
set_option maxRecDepth 20000 in
/-- spec.Best -/
theorem specBest_any (w : World) (H : Ho) (s : Sl) (h : isHo w H s) (hn : H.le 1048576) :
    Calls Tryz.prog 27 #[.agg (hoL H s).toArray] w fun o w' => ∃ r, o = .returned (.int .i64 r) ∧ bestH H r ∧ Below w.heap.size w w' := by
  have H0 : Hid (obS w H s (w.alloc (.cells (hoL H s).toArray 35))) := ⟨blk.new w _ 35, (Below.refl _ _).alloc (Nat.le_refl _) _⟩
  by_cases hok : okHo H
  · have HV : Hid (∀ W, Below w.heap.size w W → Calls Tryz.prog 72 #[.agg (hoL H s).toArray] W fun o w' => o = .returned (.bool true) ∧ Below W.heap.size W w') := fun W hW => (l3ok_any W H s (h.below hW) hn).mono (by rintro o w' ⟨⟨b, rfl, hb⟩, h2⟩; rw [hb.2 hok]; exact ⟨rfl, h2⟩)
    have HB : Hid (∀ W, Below w.heap.size w W → Calls Tryz.prog 77 #[.agg (hoL H s).toArray] W fun o w' => ∃ r : Int, o = .returned (.int .i64 r) ∧ bestR H.bx r ∧ Below W.heap.size W w') := fun W hW => l3best_any W H s (h.below hW).bx (by rw [h.bx.len]; exact hok.n2)
    have HOK : Hid (okHo H) := hok
    clear h hn hok
    go_enter Tryz.func27, Tryz.ntmps27
    go_wp2_with (first
      | (refine wpList_load_mid (P := Tryz.prog) rfl 35 _ rfl w.heap.size 0 rfl _ _ H0.out.p.load Tryz.underlying35 rfl (sz41L H s) ?_)
      | (go_at_call 72; refine (HV.out _ H0.out.b).mono ?_; rintro o w1 ⟨rfl, hb1⟩; have H1 : Hid (obS w H s w1) := H0.out.below hb1; clear H0 hb1)
      | (refine wpList_load_mid (P := Tryz.prog) rfl 35 _ rfl w.heap.size 0 rfl _ _ H1.out.p.load Tryz.underlying35 rfl (sz41L H s) ?_)
      | (go_at_call 77; refine (HB.out _ H1.out.b).mono ?_; rintro o w2 ⟨r, rfl, hr, hb2⟩; have H2 : Hid (bestR H.bx r ∧ Below w.heap.size w w2) := ⟨hr, (H1.out.below hb2).b⟩; clear hr hb2))
    go_ret
    exact ⟨r, rfl, Or.inl ⟨HOK.out, H2.out.1⟩, H2.out.2⟩
  · have HV : Hid (∀ W, Below w.heap.size w W → Calls Tryz.prog 72 #[.agg (hoL H s).toArray] W fun o w' => o = .returned (.bool false) ∧ Below W.heap.size W w') := fun W hW => (l3ok_any W H s (h.below hW) hn).mono (by rintro o w' ⟨⟨b, rfl, hb⟩, h2⟩; cases b; exact ⟨rfl, h2⟩; exact absurd (hb.1 rfl) hok)
    have HOK : Hid (¬ okHo H) := hok
    clear h hn hok
    go_enter Tryz.func27, Tryz.ntmps27
    go_wp2_with (first
      | (refine wpList_load_mid (P := Tryz.prog) rfl 35 _ rfl w.heap.size 0 rfl _ _ H0.out.p.load Tryz.underlying35 rfl (sz41L H s) ?_)
      | (go_at_call 72; refine (HV.out _ H0.out.b).mono ?_; rintro o w1 ⟨rfl, hb1⟩; have H1 : Hid (obS w H s w1) := H0.out.below hb1; clear H0 hb1))
    go_ret
    exact ⟨-1, rfl, Or.inr ⟨HOK.out, rfl⟩, H1.out.b⟩
theorem lvS.best {w0 : World} {P mb : Nat} {L : List Value} {gf n1 kf : Nat} {fs : List R3} {gb n2 kb : Nat} {bx : List R8} {k : Nat} {W : World} {st : Int} (h : lvS Unit w0 P mb L gf n1 kf fs gb n2 kb bx k W) (h5 : L[5]? = some (.slice (some ⟨gb, 0, none⟩) n2 kb)) (hn : n2 ≤ 8) (hok : okBxs st bx) :
    Calls Tryz.prog 62 #[.pointer (some ⟨P, 0, none⟩)] W fun o w' => ∃ r : Int, o = .returned (.int .i64 r) ∧ bestR bx r ∧ Below w0.heap.size w0 w' :=
  (best_any W P (some ⟨gb, 0, none⟩) n2 kb bx st (h.p.cell 5 _ h5) (h.x.k W rfl h.b) hn hok).mono (by rintro o w' ⟨r, rfl, hr, hb⟩; exact ⟨r, rfl, hr, h.b.trans (hb.mono h.b.size)⟩)
/-- impl.openHost of a valid host, then best -/
theorem open_best (w : World) (H : Ho) (s : Sl) (h : isHo w H s) (hs : slSome s) (hok : okHo H) (hm : H.fs.length ≤ 1048576) :
    Calls Tryz.prog 61 #[.agg (hoL H s).toArray] w fun o w' => ∃ P, o = .returned (.pointer (some ⟨P, 0, none⟩)) ∧ Below w.heap.size w w' ∧ Calls Tryz.prog 62 #[.pointer (some ⟨P, 0, none⟩)] w' fun o w2 => ∃ r : Int, o = .returned (.int .i64 r) ∧ bestR H.bx r ∧ Below w.heap.size w w2 := by
  obtain ⟨c0, c1, c2, c3, fs, bx, ff, qu, lo, st⟩ := H
  obtain ⟨a1, n1, k1, a2, n2, k2, a3, n3, k3, a4, n4, k4⟩ := s
  obtain ⟨⟨g1, e1⟩, ⟨g2, e2⟩⟩ := hs
  simp only [] at e1 e2
  subst e1 e2
  have hcf := of_decide_eq_true hok.cf
  have hnf := hok.nf
  have hnq := hok.nq
  have l1 := h.fs.len
  have l2 := h.bx.len
  have l3 := h.ff.len
  have l4 := h.qu.len
  simp only [] at hcf hnf hnq l1 l2 l3 l4 hm
  have hn2 := hok.n2
  simp only [] at hn2
  obtain ⟨r1, hr1⟩ : ∃ r1 : Nat, c1 = (r1 : Int) := ⟨c1.toNat, by omega⟩
  obtain ⟨r3, hr3⟩ : ∃ r3 : Nat, c3 = (r3 : Int) := ⟨c3.toNat, by omega⟩
  subst hr1 hr3
  refine (openHost_any Unit w c0 c2 r1 r3 fs bx ff qu lo st g1 n1 k1 g2 0 n2 k2 a3 n3 k3 a4 n4 k4 h.fs h.bx h.ff h.qu (by omega) (by omega) (by omega) (by omega) hok.bx).mono ?_
  rintro o w' ⟨P, mb, gf, kf, gb, kb, gr, gq, rfl, hl⟩
  exact ⟨P, rfl, hl.b, hl.best rfl (by omega) hok.bx⟩
set_option maxHeartbeats 4000000 in
set_option maxRecDepth 20000 in
/-- impl.Best -/
theorem implBest_any (w : World) (H : Ho) (s : Sl) (h : isHo w H s) (hs : slSome s) (hn : H.le 1048576) :
    Calls Tryz.prog 17 #[.agg (hoL H s).toArray] w fun o w' => ∃ r, o = .returned (.int .i64 r) ∧ bestH H r ∧ Below w.heap.size w w' := by
  have H0 : Hid (obS w H s (w.alloc (.cells (hoL H s).toArray 35))) := ⟨blk.new w _ 35, (Below.refl _ _).alloc (Nat.le_refl _) _⟩
  by_cases hok : okHo H
  · have HV : Hid (∀ W, Below w.heap.size w W → Calls Tryz.prog 60 #[.agg (hoL H s).toArray] W fun o w' => o = .returned (.bool true) ∧ Below W.heap.size W w') := fun W hW => (validHost_any W H s (h.below hW) hn).mono (by rintro o w' ⟨⟨b, rfl, hb⟩, h2⟩; rw [hb.2 hok]; exact ⟨rfl, h2⟩)
    have HB : Hid (∀ W, Below w.heap.size w W → Calls Tryz.prog 61 #[.agg (hoL H s).toArray] W fun o w' => ∃ P, o = .returned (.pointer (some ⟨P, 0, none⟩)) ∧ Below W.heap.size W w' ∧ Calls Tryz.prog 62 #[.pointer (some ⟨P, 0, none⟩)] w' fun o w2 => ∃ r : Int, o = .returned (.int .i64 r) ∧ bestR H.bx r ∧ Below W.heap.size W w2) := fun W hW => open_best W H s (h.below hW) hs hok hn.fs
    have HOK : Hid (okHo H) := hok
    clear h hn hok hs
    go_enter Tryz.func17, Tryz.ntmps17
    go_wp2_with (first
      | (refine wpList_load_mid (P := Tryz.prog) rfl 35 _ rfl w.heap.size 0 rfl _ _ H0.out.p.load Tryz.underlying35 rfl (sz41L H s) ?_)
      | (go_at_call 60; refine (HV.out _ H0.out.b).mono ?_; rintro o w1 ⟨rfl, hb1⟩; have H1 : Hid (obS w H s w1) := H0.out.below hb1; clear H0 hb1)
      | (refine wpList_load_mid (P := Tryz.prog) rfl 35 _ rfl w.heap.size 0 rfl _ _ H1.out.p.load Tryz.underlying35 rfl (sz41L H s) ?_)
      | (go_at_call 61; refine (HB.out _ H1.out.b).mono ?_; rintro o w2 ⟨P, rfl, hb2, hc2⟩; have HC2 : Hid (Calls Tryz.prog 62 #[.pointer (some ⟨P, 0, none⟩)] w2 fun o w3 => ∃ r : Int, o = .returned (.int .i64 r) ∧ bestR H.bx r ∧ Below w1.heap.size w1 w3) := hc2; clear hc2 hb2)
      | (go_at_call 62; refine (Calls.mono HC2.out) ?_; rintro o w3 ⟨r, rfl, hr, hb3⟩; have H2 : Hid (bestR H.bx r ∧ Below w.heap.size w w3) := ⟨hr, H1.out.b.trans (hb3.mono H1.out.b.size)⟩; clear hr hb3))
    go_ret
    exact ⟨r, rfl, Or.inl ⟨HOK.out, H2.out.1⟩, H2.out.2⟩
  · have HV : Hid (∀ W, Below w.heap.size w W → Calls Tryz.prog 60 #[.agg (hoL H s).toArray] W fun o w' => o = .returned (.bool false) ∧ Below W.heap.size W w') := fun W hW => (validHost_any W H s (h.below hW) hn).mono (by rintro o w' ⟨⟨b, rfl, hb⟩, h2⟩; cases b; exact ⟨rfl, h2⟩; exact absurd (hb.1 rfl) hok)
    have HOK : Hid (¬ okHo H) := hok
    clear h hn hok hs
    go_enter Tryz.func17, Tryz.ntmps17
    go_wp2_with (first
      | (refine wpList_load_mid (P := Tryz.prog) rfl 35 _ rfl w.heap.size 0 rfl _ _ H0.out.p.load Tryz.underlying35 rfl (sz41L H s) ?_)
      | (go_at_call 60; refine (HV.out _ H0.out.b).mono ?_; rintro o w1 ⟨rfl, hb1⟩; have H1 : Hid (obS w H s w1) := H0.out.below hb1; clear H0 hb1))
    go_ret
    exact ⟨-1, rfl, Or.inr ⟨HOK.out, rfl⟩, H1.out.b⟩
end Go.Proofs.YtjfkdhnkjchkgaaGreat
