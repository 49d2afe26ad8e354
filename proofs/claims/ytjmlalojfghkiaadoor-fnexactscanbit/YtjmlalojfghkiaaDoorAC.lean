import Derived.Test.YtjmlalojfghkiaaDoorAB
namespace Go.Proofs.YtjmlalojfghkiaaDoor
open Go.RowKit
set_option linter.unusedVariables false
set_option maxHeartbeats 4000000 in
set_option maxRecDepth 20000 in
theorem take_stuff (w : World) (P : Nat) (S : Sc) (a : Option Addr) (n k : Nat) (h : blk w P (scL S a n k) 31) (b : Nat) (h5 : S.rn = 5) (hv : (b : Int) = S.lv) :
    Calls Tryd.prog 30 #[.pointer (some ⟨P, 0, none⟩), .int .i64 (b : Int)] w fun o w' => o = .returned (.int .i64 3) ∧ w' = w := by
  obtain ⟨f, lf, rn, lv, cr, ac, e, i, r, d, l⟩ := S
  have z2 := h.cell 2 _ rfl
  have z3 := h.cell 3 _ rfl
  have q5 : (rn == 5) = true := by simpa using h5
  have qv : ((b : Int) == lv) = true := by simpa using hv
  clear h h5 hv
  go_enter Tryd.func30, Tryd.ntmps30
  go_wp2_with fail
  go_ret
  exact ⟨rfl, rfl⟩
set_option maxHeartbeats 4000000 in
set_option maxRecDepth 20000 in
theorem take_due (w : World) (P B : Nat) (hPB : P < B) (S : Sc) (g n k : Nat) (h : kP w w P B S g n k) (b : Nat) (h5 : S.rn = 5) (hv : (b : Int) ≠ S.lv) :
    Calls Tryd.prog 30 #[.pointer (some ⟨P, 0, none⟩), .int .i64 (b : Int)] w fun o w' => o = .returned (.int .i64 0) ∧ kP w w' P B { S with rn := 1, lv := b } g n k := by
  obtain ⟨f, lf, rn, lv, cr, ac, e, i, r, d, l⟩ := S
  have hgl := World.ownsRow.lt h.o g rfl
  have z2 := h.q.cell 2 _ rfl
  have z3 := h.q.cell 3 _ rfl
  have f2 := h.q.free 2
  have f3 := h.q.free 3
  have q5 : (rn == 5) = true := by simpa using h5
  have qv : ((b : Int) == lv) = false := by simpa using hv
  have HK : Hid (kP w ((w.setCell ⟨P, 2, none⟩ (.int .i64 1)).setCell ⟨P, 3, none⟩ (.int .i64 (b : Int))) P B ⟨f, lf, 1, b, cr, ac, e, i, r, d, l⟩ g n k) :=
    (h.put (T' := ⟨f, lf, 1, lv, cr, ac, e, i, r, d, l⟩) (by omega) 2 (.int .i64 1) rfl rfl).put (by omega) 3 (.int .i64 (b : Int)) rfl rfl
  clear h h5 hv hgl
  go_enter Tryd.func30, Tryd.ntmps30
  go_wp2_with fail
  go_ret
  exact ⟨rfl, HK.out⟩
set_option maxHeartbeats 4000000 in
set_option maxRecDepth 20000 in
theorem take_end (w : World) (P : Nat) (S : Sc) (a : Option Addr) (n k : Nat) (h : blk w P (scL S a n k) 31) (hlf : 1 ≤ S.lf) (b : Nat) (hb : b < 2) (h5 : S.rn ≠ 5) (hc : verdZ S.f S.lf S.cr S.ac b ≠ 0 ∧ verdZ S.f S.lf S.cr S.ac b ≠ 1) :
    Calls Tryd.prog 30 #[.pointer (some ⟨P, 0, none⟩), .int .i64 (b : Int)] w fun o w' => o = .returned (.int .i64 (verdZ S.f S.lf S.cr S.ac b)) ∧ Below w.heap.size w w' := by
  have HP := plainCode_any w P S a n k h hlf b hb
  have HGO : Hid (∀ W, Calls Tryd.prog 31 #[.int .i64 (verdZ S.f S.lf S.cr S.ac b)] W fun o w' => o = .returned (.bool false) ∧ w' = W) := by
    intro W
    refine (goesOn_any W (verdZ S.f S.lf S.cr S.ac b)).mono ?_
    rintro o w' ⟨⟨x, rfl, hx⟩, rfl⟩
    refine ⟨?_, rfl⟩
    cases x
    · rfl
    · exact absurd (hx.1 rfl) (fun hh => hh.elim hc.1 hc.2)
  have HPC : Hid (Calls Tryd.prog 52 #[.pointer (some ⟨P, 0, none⟩), .int .i64 (b : Int)] w fun o w' => o = .returned (.int .i64 (verdZ S.f S.lf S.cr S.ac b)) ∧ Below w.heap.size w w') := HP
  obtain ⟨f, lf, rn, lv, cr, ac, e, i, r, d, l⟩ := S
  have z2 := h.cell 2 _ rfl
  have q5 : (rn == 5) = false := by simpa using h5
  clear h h5 HP hc
  simp only [] at z2 HGO HPC ⊢
  generalize verdZ f lf cr ac b = v at *
  go_enter Tryd.func30, Tryd.ntmps30
  go_wp2_with fail
  refine HPC.out.mono ?_
  rintro o w1 ⟨rfl, hb1⟩
  go_wp2_with fail
  refine (HGO.out _).mono ?_
  rintro o w2 ⟨rfl, rfl⟩
  go_wp2_with fail
  go_ret
  exact ⟨rfl, hb1⟩
set_option maxHeartbeats 4000000 in
set_option maxRecDepth 20000 in
theorem take_on (w : World) (P B : Nat) (hP : 0 < P) (hPB : P < B) (hB : B ≤ w.heap.size) (hg : w.rangeAt 0 0 tabL) (S : Sc) (hS : bd S) (hr0 : 0 ≤ S.rn) (hr1 : S.rn ≤ 5) (g n k : Nat) (h : kP w w P B S g n k) (b : Nat) (hb : b < 2) (h5 : S.rn ≠ 5) (hc : verdZ S.f S.lf S.cr S.ac b = 0 ∨ verdZ S.f S.lf S.cr S.ac b = 1) (h13 : S.lf = 1 → S.f ≤ 13) :
    Calls Tryd.prog 30 #[.pointer (some ⟨P, 0, none⟩), .int .i64 (b : Int)] w fun o w' => o = .returned (.int .i64 (verdZ S.f S.lf S.cr S.ac b)) ∧ aP w w' P B (stepT S b) := by
  have HP := plainCode_any w P S _ n k h.q hS.l1 b hb
  have HGO : Hid (∀ W, Calls Tryd.prog 31 #[.int .i64 (verdZ S.f S.lf S.cr S.ac b)] W fun o w' => o = .returned (.bool true) ∧ w' = W) := by
    intro W
    refine (goesOn_any W (verdZ S.f S.lf S.cr S.ac b)).mono ?_
    rintro o w' ⟨⟨x, rfl, hx⟩, rfl⟩
    rw [hx.2 hc]
    exact ⟨rfl, rfl⟩
  have HPC : Hid (Calls Tryd.prog 52 #[.pointer (some ⟨P, 0, none⟩), .int .i64 (b : Int)] w fun o w' => o = .returned (.int .i64 (verdZ S.f S.lf S.cr S.ac b)) ∧ Below w.heap.size w w') := HP
  have HK : Hid (kP w w P B S g n k) := h
  have HZ : Hid (∀ W, Below P w W → W.rangeAt 0 0 tabL ∧ B ≤ W.heap.size) := fun W hW => ⟨fun j v hv => (hW.cell (p := ⟨0, 0 + j, none⟩) (by exact hP)).trans (hg j v hv), Nat.le_trans hB hW.size⟩
  have HH : Hid (∀ W, kP w W P B S g n k → Calls Tryd.prog 53 #[.pointer (some ⟨P, 0, none⟩), .int .i64 (b : Int)] W fun o w' => (∃ v, o = .returned v) ∧ kP w w' P B (hearT S b) g n k) := by
    intro W hW
    refine (hear_any W P S _ n k hW.q hr1 hr0 b hb).mono ?_
    rintro o w' ⟨hv, hs⟩
    refine ⟨hv, hs.q, ?_, ?_, hW.b.trans hs.b, fun q h1 h2 => (hs.o q h1 (by have := World.ownsRow.lt hW.o g rfl; omega)).trans (hW.r q h1 h2)⟩
    · have e : (hearT S b).l = S.l := by unfold hearT; split <;> rfl
      rw [e]
      have hgl := World.ownsRow.lt hW.o g rfl
      exact hW.o.keep hW.l (hs.o g (by omega) hgl.2)
    · have e : (hearT S b).l = S.l := by unfold hearT; split <;> rfl
      rw [e]
      exact hW.l
  have e1 : (hearT S b).f = S.f ∧ (hearT S b).lf = S.lf ∧ (hearT S b).i = S.i ∧ (hearT S b).d = S.d ∧ (hearT S b).l = S.l ∧ (hearT S b).cr = S.cr ∧ (hearT S b).ac = S.ac := by unfold hearT; split <;> exact ⟨rfl, rfl, rfl, rfl, rfl, rfl, rfl⟩
  have hbd : bd (hearT S b) := by
    obtain ⟨a1, a2, a3, a4, a5, a6, a7, a8, a9, a10, a11, a12, a13, a14⟩ := hS
    obtain ⟨c1, c2, c3, c4, c5, c6, c7⟩ := e1
    exact ⟨by rw [c1]; exact a1, by rw [c1]; exact a2, by rw [c3]; exact a3, by rw [c4]; exact a4, by rw [c4]; exact a5, by rw [c5]; exact a6, by rw [c2]; exact a7, by rw [c2]; exact a8, by rw [c6]; exact a9, by rw [c6]; exact a10, by rw [c7]; exact a11, by rw [c7]; exact a12, by rw [c5]; exact a13, by rw [c1, c2, c5]; exact a14⟩
  have HKE : Hid (∀ W, kP w W P B (hearT S b) g n k → Calls Tryd.prog 54 #[.pointer (some ⟨P, 0, none⟩), .int .i64 (b : Int)] W fun o w' => (∃ v, o = .returned v) ∧ ∃ g' n' k', kP w w' P B (feedZ (accT (sumT (hearT S b) b) b) b) g' n' k') := by
    intro W hW
    refine (keep_any W P B hPB (HZ.out W hW.b).2 (hearT S b) hbd g n k ⟨hW.q, hW.o, hW.l, Below.refl _ _, fun _ _ _ => rfl⟩ b hb).mono ?_
    rintro o w' ⟨hv, g', n', k', hs⟩
    exact ⟨hv, g', n', k', hs.q, hs.o, hs.l, hW.b.trans hs.b, fun q h1 h2 => (hs.r q h1 h2).trans (hW.r q h1 h2)⟩
  have e2 : (accT (sumT (hearT S b) b) b).f = S.f ∧ (accT (sumT (hearT S b) b) b).lf = S.lf ∧ (accT (sumT (hearT S b) b) b).d = S.d ∧ (accT (sumT (hearT S b) b) b).l = S.l := by
    obtain ⟨c1, c2, c3, c4, c5, c6, c7⟩ := e1
    unfold accT sumT
    refine ⟨?_, ?_, ?_, ?_⟩ <;> (repeat' split) <;> assumption
  have hfk := feedZ_keeps (accT (sumT (hearT S b) b) b) b hb (by rw [e2.2.2.1]; exact hS.d0) (by rw [e2.2.2.1]; exact hS.d1) (by rw [e2.2.2.2]; exact hS.sm)
  rw [e2.1, e2.2.1] at hfk
  have HAD : Hid (∀ W g' n' k', kP w W P B (feedZ (accT (sumT (hearT S b) b) b) b) g' n' k' → Calls Tryd.prog 55 #[.pointer (some ⟨P, 0, none⟩)] W fun o w' => (∃ v, o = .returned v) ∧ aP w w' P B (stepT S b)) := by
    intro W g' n' k' hW
    refine (advance_any W P B hP hPB (HZ.out W hW.b).2 (HZ.out W hW.b).1 _ (by rw [hfk.1]; exact hS.f1) (by rw [hfk.1, hfk.2.1]; exact h13) hfk.2.2.1 hfk.2.2.2.1 (by rw [hfk.2.1]; exact hS.l1) (by rw [hfk.2.1]; exact hS.l2) g' n' k' ⟨hW.q, hW.o, hW.l, Below.refl _ _, fun _ _ _ => rfl⟩).mono ?_
    rintro o w' ⟨hv, hs⟩
    refine ⟨hv, ?_⟩
    rcases hs with ⟨g2, n2, k2, hs⟩ | ⟨h1, h2, h3⟩
    · exact Or.inl ⟨g2, n2, k2, hs.q, hs.o, hs.l, hW.b.trans hs.b, fun q h1 h2 => (hs.r q h1 h2).trans (hW.r q h1 h2)⟩
    · exact Or.inr ⟨h1, h2, hW.b.trans h3.1, fun q q1 q2 => (h3.2 q q1 q2).trans (hW.r q q1 q2)⟩
  have z2 := h.q.cell 2 _ rfl
  clear hfk e2 hbd e1 h HP hS hc h13 hg hr0 hr1
  generalize stepT S b = T3 at *
  generalize feedZ (accT (sumT (hearT S b) b) b) b = T2 at *
  generalize hearT S b = T1 at *
  obtain ⟨f, lf, rn, lv, cr, ac, e, i, r, d, l⟩ := S
  have q5 : (rn == 5) = false := by simpa using h5
  clear h5
  simp only [] at z2 HGO HPC ⊢
  generalize verdZ f lf cr ac b = v at *
  go_enter Tryd.func30, Tryd.ntmps30
  go_wp2_with fail
  refine HPC.out.mono ?_
  rintro o w1 ⟨rfl, hb1⟩
  have HK1 : Hid (kP w w1 P B ⟨f, lf, rn, lv, cr, ac, e, i, r, d, l⟩ g n k) := HK.out.below hb1
  clear hb1
  go_wp2_with fail
  refine (HGO.out _).mono ?_
  rintro o w2 ⟨rfl, rfl⟩
  go_wp2_with fail
  refine (HH.out _ HK1.out).mono ?_
  rintro o w3 ⟨⟨v1, rfl⟩, hk3⟩
  have HK3 : Hid _ := hk3
  clear hk3
  go_wp2_with fail
  refine (HKE.out _ HK3.out).mono ?_
  rintro o w4 ⟨⟨v2, rfl⟩, g', n', k', hk4⟩
  have HK4 : Hid _ := hk4
  clear hk4
  go_wp2_with fail
  refine (HAD.out _ g' n' k' HK4.out).mono ?_
  rintro o w5 ⟨⟨v3, rfl⟩, hk5⟩
  have HK5 : Hid _ := hk5
  clear hk5
  go_wp2_with fail
  go_ret
  exact ⟨rfl, HK5.out⟩
end Go.Proofs.YtjmlalojfghkiaaDoor
