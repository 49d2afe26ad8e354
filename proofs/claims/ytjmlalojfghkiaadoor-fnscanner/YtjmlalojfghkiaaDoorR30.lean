import Derived.Test.YtjmlalojfghkiaaDoorR28
import Derived.Test.YtjmlalojfghkiaaDoorR29
namespace Go.Proofs.YtjmlalojfghkiaaDoor
open Go.RowKit
set_option linter.unusedVariables false
theorem keepData_any (w : World) (P B : Nat) (hPB : P < B) (hB : B ≤ w.heap.size) (S : Sc) (g n k : Nat) (h : kP w w P B S g n k) (hn8 : n ≤ 8) (hsm : ∀ x ∈ S.l, x < 256) (hlf : 1 ≤ S.lf) (hlf1 : S.lf ≤ 64) (hne : ¬ S.lf % 8 = 0 → 1 ≤ n) (b : Nat) (hb : b < 2) :
    Calls Tryd.prog 78 #[.pointer (some ⟨P, 0, none⟩), .int .u8 (b : Int)] w fun o w' => (∃ v, o = .returned v) ∧ ∃ g' n' k', kP w w' P B { S with l := dataZ S.l S.lf b } g' n' k' := by
  by_cases h8 : S.lf % 8 = 0
  · refine (keepData_app w P B hPB hB S g n k h.q h.o h.l hn8 hlf hlf1 h8 b hb).mono ?_
    rintro o w' ⟨hv, g', k', hk⟩
    refine ⟨hv, g', n + 1, k', ?_⟩
    have e : dataZ S.l S.lf b = S.l ++ [b] := by unfold dataZ; rw [if_pos h8]
    rw [e]
    exact hk
  · obtain ⟨m, rfl⟩ : ∃ m, n = m + 1 := ⟨n - 1, by have := hne h8; omega⟩
    refine (keepData_last w P B hPB hB S g m k h.q h.o h.l (by omega) hsm hlf hlf1 h8 b hb).mono ?_
    rintro o w' ⟨hv, hk⟩
    refine ⟨hv, g, m + 1, k, ?_⟩
    have em : S.l.length - 1 = m := by have := h.l; omega
    have e : dataZ S.l S.lf b = S.l.set m ((2 * S.l.getD m 0 + b) % 256) := by unfold dataZ; rw [if_neg h8, em]
    rw [e]
    exact hk
set_option maxHeartbeats 4000000 in
set_option maxRecDepth 20000 in
theorem keep_data (w : World) (P B : Nat) (hPB : P < B) (hB : B ≤ w.heap.size) (lf rn lv cr ac : Int) (e : Bool) (i : Nat) (r : Bool) (d : Int) (l : List Nat) (g n k : Nat) (h : kP w w P B ⟨9, lf, rn, lv, cr, ac, e, i, r, d, l⟩ g n k) (hcr : 0 ≤ cr) (hcr1 : cr ≤ 32767) (hn8 : n ≤ 8) (hsm : ∀ x ∈ l, x < 256) (hlf : 1 ≤ lf) (hlf1 : lf ≤ 64) (hne : ¬ lf % 8 = 0 → 1 ≤ n) (b : Nat) (hb : b < 2) :
    Calls Tryd.prog 54 #[.pointer (some ⟨P, 0, none⟩), .int .i64 (b : Int)] w fun o w' => (∃ v, o = .returned v) ∧ ∃ g' n' k', kP w w' P B ⟨9, lf, rn, lv, ((stepN cr.toNat b : Nat) : Int), ac, e, i, r, d, dataZ l lf b⟩ g' n' k' := by
  have HSUM : Hid (∀ W, Calls Tryd.prog 77 #[.int .i64 cr, .int .i64 (b : Int)] W fun o w' => o = .returned (.int .i64 ((stepN cr.toNat b : Nat) : Int)) ∧ W = w') := by
    intro W
    have := crcStep_any cr.toNat b W (by omega)
    rwa [Int.toNat_of_nonneg hcr] at this
  have hgP : g ≠ P := by have := (World.ownsRow.lt h.o g rfl).1; omega
  have z0 := h.q.cell 0 _ rfl
  have z4 := h.q.cell 4 _ rfl
  have f4 := h.q.free 4
  have HD : Hid (∀ s : Nat, Calls Tryd.prog 78 #[.pointer (some ⟨P, 0, none⟩), .int .u8 (b : Int)] (w.setCell ⟨P, 4, none⟩ (.int .i64 (s : Int))) fun o w' => (∃ v, o = .returned v) ∧ ∃ g' n' k', kP w w' P B ⟨9, lf, rn, lv, (s : Int), ac, e, i, r, d, dataZ l lf b⟩ g' n' k') := by
    intro s
    have hk := h.put (T' := ⟨9, lf, rn, lv, (s : Int), ac, e, i, r, d, l⟩) hgP 4 (.int .i64 (s : Int)) rfl rfl
    refine (keepData_any (w.setCell ⟨P, 4, none⟩ (.int .i64 (s : Int))) P B hPB (by simpa using hB) ⟨9, lf, rn, lv, (s : Int), ac, e, i, r, d, l⟩ g n k ⟨hk.q, hk.o, hk.l, Below.refl _ _, fun _ _ _ => rfl⟩ hn8 hsm hlf hlf1 hne b hb).mono ?_
    rintro o w' ⟨hv, g', n', k', hq⟩
    exact ⟨hv, g', n', k', hq.q, hq.o, hq.l, hk.b.trans hq.b, fun q h1 h2 => (hq.r q h1 h2).trans (hk.r q h1 h2)⟩
  clear h hgP hne hsm
  generalize stepN cr.toNat b = s at *
  have hwb : IntKind.u8.wrap (b : Int) = (b : Int) := by rw [IntKind.wrap_u8]; omega
  go_enter Tryd.func54, Tryd.ntmps54
  go_wp2_with fail
  refine (HSUM.out _).mono ?_
  rintro o w1 ⟨rfl, rfl⟩
  go_wp2_with fail
  refine (HD.out s).mono ?_
  rintro o w2 ⟨⟨v, rfl⟩, g', n', k', hq⟩
  have HQ : Hid _ := hq
  clear hq
  go_wp2_with fail
  go_end0
  exact ⟨⟨_, rfl⟩, g', n', k', HQ.out⟩
/-- the bounds that the step keeps to -/
structure bd (T : Sc) : Prop where
  f1 : 1 ≤ T.f
  f2 : T.f ≤ 14
  i : T.i < 536870912
  d0 : 0 ≤ T.d
  d1 : T.d ≤ 15
  n : T.l.length ≤ 8
  l1 : 1 ≤ T.lf
  l2 : T.lf ≤ 64
  c0 : 0 ≤ T.cr
  c1 : T.cr ≤ 32767
  a0 : 0 ≤ T.ac
  a1 : T.ac ≤ 32767
  sm : ∀ x ∈ T.l, x < 256
  ne : T.f = 9 → ¬ T.lf % 8 = 0 → 1 ≤ T.l.length
theorem keep_any (w : World) (P B : Nat) (hPB : P < B) (hB : B ≤ w.heap.size) (S : Sc) (hS : bd S) (g n k : Nat) (h : kP w w P B S g n k) (b : Nat) (hb : b < 2) :
    Calls Tryd.prog 54 #[.pointer (some ⟨P, 0, none⟩), .int .i64 (b : Int)] w fun o w' => (∃ v, o = .returned v) ∧ ∃ g' n' k', kP w w' P B (feedZ (accT (sumT S b) b) b) g' n' k' := by
  obtain ⟨f, lf, rn, lv, cr, ac, e, i, r, d, l⟩ := S
  have hn := h.l
  obtain ⟨b1, b2, b3, b4, b5, b6, b7, b8, b9, b10, b11, b12, b13, b14⟩ := hS
  simp only [] at b1 b2 b3 b4 b5 b6 b7 b8 b9 b10 b11 b12 b13 b14 hn
  have key : ∀ T : Sc, feedZ (accT (sumT ⟨f, lf, rn, lv, cr, ac, e, i, r, d, l⟩ b) b) b = T → ∀ (o : Ending) (w' : World), ((∃ v, o = .returned v) ∧ kP w w' P B T g n k) → ((∃ v, o = .returned v) ∧ ∃ g' n' k', kP w w' P B (feedZ (accT (sumT ⟨f, lf, rn, lv, cr, ac, e, i, r, d, l⟩ b) b) b) g' n' k') := by
    rintro T rfl o w' ⟨h1, h2⟩
    exact ⟨h1, g, n, k, h2⟩
  have hsum : f ≤ 9 → sumT ⟨f, lf, rn, lv, cr, ac, e, i, r, d, l⟩ b = ⟨f, lf, rn, lv, ((stepN cr.toNat b : Nat) : Int), ac, e, i, r, d, l⟩ := fun h9 => if_pos h9
  have hsum' : ¬ f ≤ 9 → sumT ⟨f, lf, rn, lv, cr, ac, e, i, r, d, l⟩ b = ⟨f, lf, rn, lv, cr, ac, e, i, r, d, l⟩ := fun h9 => if_neg h9
  have hacc : ∀ c : Int, ¬ f = 10 → accT ⟨f, lf, rn, lv, c, ac, e, i, r, d, l⟩ b = ⟨f, lf, rn, lv, c, ac, e, i, r, d, l⟩ := fun c h10 => if_neg h10
  by_cases h1 : f = 2 ∨ f = 5
  · refine (keep_id w P B hPB hB f h1 lf rn lv cr ac e i r d l g n k h b9 b10 b11 b12 b3 b4 b5 b hb).mono (key _ ?_)
    rw [hsum (by omega), hacc _ (by omega)]
    exact if_pos h1
  by_cases h2 : f = 3 ∨ f = 6
  · refine (keep_rtr w P B hPB hB f h2 lf rn lv cr ac e i r d l g n k h b9 b10 b11 b12 b3 b4 b5 b hb).mono (key _ ?_)
    rw [hsum (by omega), hacc _ (by omega)]
    unfold feedZ
    simp only []
    rw [if_neg h1, if_pos h2]
  by_cases h3 : f = 4
  · have hb' : b = 0 ∨ b = 1 := by omega
    have e4 : feedZ (accT (sumT ⟨f, lf, rn, lv, cr, ac, e, i, r, d, l⟩ b) b) b = ⟨f, lf, rn, lv, ((stepN cr.toNat b : Nat) : Int), ac, b == 1, i, if b = 1 then false else r, d, l⟩ := by
      rw [hsum (by omega), hacc _ (by omega)]
      unfold feedZ
      simp only []
      rw [if_neg h1, if_neg h2, if_pos h3]
    rcases hb' with rfl | rfl
    · cases r
      · exact (keep_ide0f w P B hPB hB f h3 lf rn lv cr ac e i d l g n k h b9 b10 b11 b12 b3 b4 b5 0 rfl).mono (key _ e4)
      · exact (keep_ide0t w P B hPB hB f h3 lf rn lv cr ac e i d l g n k h b9 b10 b11 b12 b3 b4 b5 0 rfl).mono (key _ e4)
    · cases r
      · exact (keep_ide1f w P B hPB hB f h3 lf rn lv cr ac e i d l g n k h b9 b10 b11 b12 b3 b4 b5 1 rfl).mono (key _ e4)
      · exact (keep_ide1t w P B hPB hB f h3 lf rn lv cr ac e i d l g n k h b9 b10 b11 b12 b3 b4 b5 1 rfl).mono (key _ e4)
  by_cases h4 : f = 8
  · refine (keep_dlc w P B hPB hB f h4 lf rn lv cr ac e i r d l g n k h b9 b10 b11 b12 b3 b4 b5 b hb).mono (key _ ?_)
    rw [hsum (by omega), hacc _ (by omega)]
    unfold feedZ
    simp only []
    rw [if_neg h1, if_neg h2, if_neg h3, if_pos h4]
  by_cases h5 : f = 9
  · subst h5
    have e9 : feedZ (accT (sumT ⟨9, lf, rn, lv, cr, ac, e, i, r, d, l⟩ b) b) b = ⟨9, lf, rn, lv, ((stepN cr.toNat b : Nat) : Int), ac, e, i, r, d, dataZ l lf b⟩ := by
      rw [hsum (by omega), hacc _ (by omega)]
      unfold feedZ
      simp only []
      rw [if_neg h1, if_neg h2, if_neg h3, if_neg h4, if_pos trivial]
    rw [e9]
    exact keep_data w P B hPB hB lf rn lv cr ac e i r d l g n k h b9 b10 (by omega) b13 b7 b8 (fun h8 => by rw [hn]; exact b14 rfl h8) b hb
  by_cases h6 : f = 10
  · refine (keep_acc w P B hPB hB f h6 lf rn lv cr ac e i r d l g n k h b9 b10 b11 b12 b3 b4 b5 b hb).mono (key _ ?_)
    rw [hsum' (by omega)]
    have e1 : accT ⟨f, lf, rn, lv, cr, ac, e, i, r, d, l⟩ b = ⟨f, lf, rn, lv, cr, (2 * ac + b) % 32768, e, i, r, d, l⟩ := if_pos h6
    rw [e1]
    unfold feedZ
    simp only []
    rw [if_neg h1, if_neg h2, if_neg h3, if_neg h4, if_neg h5]
  by_cases h7 : f ≤ 9
  · refine (keep_lo w P B hPB hB f (by omega) lf rn lv cr ac e i r d l g n k h b9 b10 b11 b12 b3 b4 b5 b hb).mono (key _ ?_)
    rw [hsum h7, hacc _ h6]
    unfold feedZ
    simp only []
    rw [if_neg h1, if_neg h2, if_neg h3, if_neg h4, if_neg h5]
  · refine (keep_hi w P B hPB hB f (by omega) lf rn lv cr ac e i r d l g n k h b9 b10 b11 b12 b3 b4 b5 b hb).mono (key _ ?_)
    rw [hsum' h7, hacc _ h6]
    unfold feedZ
    simp only []
    rw [if_neg h1, if_neg h2, if_neg h3, if_neg h4, if_neg h5]
end Go.Proofs.YtjmlalojfghkiaaDoor
namespace Go.Proofs.YtjmlalojfghkiaaDoor.G
open Go.RowKit
set_option linter.unusedVariables false
theorem keepData_any (w : World) (P B : Nat) (hPB : P < B) (hB : B ≤ w.heap.size) (S : Sc) (g : Option Addr) (n k : Nat) (h : kP w w P B S g n k) (hn8 : n ≤ 8) (hsm : ∀ x ∈ S.l, x < 256) (hlf : 1 ≤ S.lf) (hlf1 : S.lf ≤ 64) (hne : ¬ S.lf % 8 = 0 → 1 ≤ n) (b : Nat) (hb : b < 2) :
    Calls Tryd.prog 78 #[.pointer (some ⟨P, 0, none⟩), .int .u8 (b : Int)] w fun o w' => (∃ v, o = .returned v) ∧ ∃ g' n' k', kP w w' P B { S with l := dataZ S.l S.lf b } g' n' k' := by
  by_cases h8 : S.lf % 8 = 0
  · refine (keepData_app w P B hPB hB S g n k h hn8 hlf hlf1 h8 b hb).mono ?_
    rintro o w' ⟨hv, g', n', k', hk⟩
    refine ⟨hv, g', n', k', ?_⟩
    have e : dataZ S.l S.lf b = S.l ++ [b] := by unfold dataZ; rw [if_pos h8]
    rw [e]
    exact hk
  · obtain ⟨m, rfl⟩ : ∃ m, n = m + 1 := ⟨n - 1, by have := hne h8; omega⟩
    refine (keepData_last w P B hPB hB S g m k h (by omega) hsm hlf hlf1 h8 b hb).mono ?_
    rintro o w' ⟨hv, hk⟩
    refine ⟨hv, g, m + 1, k, ?_⟩
    have em : S.l.length - 1 = m := by have := h.l; omega
    have e : dataZ S.l S.lf b = S.l.set m ((2 * S.l.getD m 0 + b) % 256) := by unfold dataZ; rw [if_neg h8, em]
    rw [e]
    exact hk
set_option maxHeartbeats 4000000 in
set_option maxRecDepth 20000 in
theorem keep_data (w : World) (P B : Nat) (hPB : P < B) (hB : B ≤ w.heap.size) (lf rn lv cr ac : Int) (e : Bool) (i : Nat) (r : Bool) (d : Int) (l : List Nat) (g : Option Addr) (n k : Nat) (h : kP w w P B ⟨9, lf, rn, lv, cr, ac, e, i, r, d, l⟩ g n k) (hcr : 0 ≤ cr) (hcr1 : cr ≤ 32767) (hn8 : n ≤ 8) (hsm : ∀ x ∈ l, x < 256) (hlf : 1 ≤ lf) (hlf1 : lf ≤ 64) (hne : ¬ lf % 8 = 0 → 1 ≤ n) (b : Nat) (hb : b < 2) :
    Calls Tryd.prog 54 #[.pointer (some ⟨P, 0, none⟩), .int .i64 (b : Int)] w fun o w' => (∃ v, o = .returned v) ∧ ∃ g' n' k', kP w w' P B ⟨9, lf, rn, lv, ((stepN cr.toNat b : Nat) : Int), ac, e, i, r, d, dataZ l lf b⟩ g' n' k' := by
  have HSUM : Hid (∀ W, Calls Tryd.prog 77 #[.int .i64 cr, .int .i64 (b : Int)] W fun o w' => o = .returned (.int .i64 ((stepN cr.toNat b : Nat) : Int)) ∧ W = w') := by
    intro W
    have := crcStep_any cr.toNat b W (by omega)
    rwa [Int.toNat_of_nonneg hcr] at this
  have hgP : P < B := hPB
  have z0 := h.q.cell 0 _ rfl
  have z4 := h.q.cell 4 _ rfl
  have f4 := h.q.free 4
  have HD : Hid (∀ s : Nat, Calls Tryd.prog 78 #[.pointer (some ⟨P, 0, none⟩), .int .u8 (b : Int)] (w.setCell ⟨P, 4, none⟩ (.int .i64 (s : Int))) fun o w' => (∃ v, o = .returned v) ∧ ∃ g' n' k', kP w w' P B ⟨9, lf, rn, lv, (s : Int), ac, e, i, r, d, dataZ l lf b⟩ g' n' k') := by
    intro s
    have hk := h.put (T' := ⟨9, lf, rn, lv, (s : Int), ac, e, i, r, d, l⟩) hgP 4 (.int .i64 (s : Int)) rfl rfl
    refine (keepData_any (w.setCell ⟨P, 4, none⟩ (.int .i64 (s : Int))) P B hPB (by simpa using hB) ⟨9, lf, rn, lv, (s : Int), ac, e, i, r, d, l⟩ g n k ⟨hk.q, hk.o, hk.l, Below.refl _ _, fun _ _ _ => rfl, hk.z⟩ hn8 hsm hlf hlf1 hne b hb).mono ?_
    rintro o w' ⟨hv, g', n', k', hq⟩
    exact ⟨hv, g', n', k', hq.q, hq.o, hq.l, hk.b.trans hq.b, fun q h1 h2 => (hq.r q h1 h2).trans (hk.r q h1 h2), hq.z⟩
  clear h hgP hne hsm
  generalize stepN cr.toNat b = s at *
  have hwb : IntKind.u8.wrap (b : Int) = (b : Int) := by rw [IntKind.wrap_u8]; omega
  go_enter Tryd.func54, Tryd.ntmps54
  go_wp2_with fail
  refine (HSUM.out _).mono ?_
  rintro o w1 ⟨rfl, rfl⟩
  go_wp2_with fail
  refine (HD.out s).mono ?_
  rintro o w2 ⟨⟨v, rfl⟩, g', n', k', hq⟩
  have HQ : Hid _ := hq
  clear hq
  go_wp2_with fail
  go_end0
  exact ⟨⟨_, rfl⟩, g', n', k', HQ.out⟩
theorem keep_any (w : World) (P B : Nat) (hPB : P < B) (hB : B ≤ w.heap.size) (S : Sc) (hS : bd S) (g : Option Addr) (n k : Nat) (h : kP w w P B S g n k) (b : Nat) (hb : b < 2) :
    Calls Tryd.prog 54 #[.pointer (some ⟨P, 0, none⟩), .int .i64 (b : Int)] w fun o w' => (∃ v, o = .returned v) ∧ ∃ g' n' k', kP w w' P B (feedZ (accT (sumT S b) b) b) g' n' k' := by
  obtain ⟨f, lf, rn, lv, cr, ac, e, i, r, d, l⟩ := S
  have hn := h.l
  obtain ⟨b1, b2, b3, b4, b5, b6, b7, b8, b9, b10, b11, b12, b13, b14⟩ := hS
  simp only [] at b1 b2 b3 b4 b5 b6 b7 b8 b9 b10 b11 b12 b13 b14 hn
  have key : ∀ T : Sc, feedZ (accT (sumT ⟨f, lf, rn, lv, cr, ac, e, i, r, d, l⟩ b) b) b = T → ∀ (o : Ending) (w' : World), ((∃ v, o = .returned v) ∧ kP w w' P B T g n k) → ((∃ v, o = .returned v) ∧ ∃ g' n' k', kP w w' P B (feedZ (accT (sumT ⟨f, lf, rn, lv, cr, ac, e, i, r, d, l⟩ b) b) b) g' n' k') := by
    rintro T rfl o w' ⟨h1, h2⟩
    exact ⟨h1, g, n, k, h2⟩
  have hsum : f ≤ 9 → sumT ⟨f, lf, rn, lv, cr, ac, e, i, r, d, l⟩ b = ⟨f, lf, rn, lv, ((stepN cr.toNat b : Nat) : Int), ac, e, i, r, d, l⟩ := fun h9 => if_pos h9
  have hsum' : ¬ f ≤ 9 → sumT ⟨f, lf, rn, lv, cr, ac, e, i, r, d, l⟩ b = ⟨f, lf, rn, lv, cr, ac, e, i, r, d, l⟩ := fun h9 => if_neg h9
  have hacc : ∀ c : Int, ¬ f = 10 → accT ⟨f, lf, rn, lv, c, ac, e, i, r, d, l⟩ b = ⟨f, lf, rn, lv, c, ac, e, i, r, d, l⟩ := fun c h10 => if_neg h10
  by_cases h1 : f = 2 ∨ f = 5
  · refine (keep_id w P B hPB hB f h1 lf rn lv cr ac e i r d l g n k h b9 b10 b11 b12 b3 b4 b5 b hb).mono (key _ ?_)
    rw [hsum (by omega), hacc _ (by omega)]
    exact if_pos h1
  by_cases h2 : f = 3 ∨ f = 6
  · refine (keep_rtr w P B hPB hB f h2 lf rn lv cr ac e i r d l g n k h b9 b10 b11 b12 b3 b4 b5 b hb).mono (key _ ?_)
    rw [hsum (by omega), hacc _ (by omega)]
    unfold feedZ
    simp only []
    rw [if_neg h1, if_pos h2]
  by_cases h3 : f = 4
  · have hb' : b = 0 ∨ b = 1 := by omega
    have e4 : feedZ (accT (sumT ⟨f, lf, rn, lv, cr, ac, e, i, r, d, l⟩ b) b) b = ⟨f, lf, rn, lv, ((stepN cr.toNat b : Nat) : Int), ac, b == 1, i, if b = 1 then false else r, d, l⟩ := by
      rw [hsum (by omega), hacc _ (by omega)]
      unfold feedZ
      simp only []
      rw [if_neg h1, if_neg h2, if_pos h3]
    rcases hb' with rfl | rfl
    · cases r
      · exact (keep_ide0f w P B hPB hB f h3 lf rn lv cr ac e i d l g n k h b9 b10 b11 b12 b3 b4 b5 0 rfl).mono (key _ e4)
      · exact (keep_ide0t w P B hPB hB f h3 lf rn lv cr ac e i d l g n k h b9 b10 b11 b12 b3 b4 b5 0 rfl).mono (key _ e4)
    · cases r
      · exact (keep_ide1f w P B hPB hB f h3 lf rn lv cr ac e i d l g n k h b9 b10 b11 b12 b3 b4 b5 1 rfl).mono (key _ e4)
      · exact (keep_ide1t w P B hPB hB f h3 lf rn lv cr ac e i d l g n k h b9 b10 b11 b12 b3 b4 b5 1 rfl).mono (key _ e4)
  by_cases h4 : f = 8
  · refine (keep_dlc w P B hPB hB f h4 lf rn lv cr ac e i r d l g n k h b9 b10 b11 b12 b3 b4 b5 b hb).mono (key _ ?_)
    rw [hsum (by omega), hacc _ (by omega)]
    unfold feedZ
    simp only []
    rw [if_neg h1, if_neg h2, if_neg h3, if_pos h4]
  by_cases h5 : f = 9
  · subst h5
    have e9 : feedZ (accT (sumT ⟨9, lf, rn, lv, cr, ac, e, i, r, d, l⟩ b) b) b = ⟨9, lf, rn, lv, ((stepN cr.toNat b : Nat) : Int), ac, e, i, r, d, dataZ l lf b⟩ := by
      rw [hsum (by omega), hacc _ (by omega)]
      unfold feedZ
      simp only []
      rw [if_neg h1, if_neg h2, if_neg h3, if_neg h4, if_pos trivial]
    rw [e9]
    exact keep_data w P B hPB hB lf rn lv cr ac e i r d l g n k h b9 b10 (by omega) b13 b7 b8 (fun h8 => by rw [hn]; exact b14 rfl h8) b hb
  by_cases h6 : f = 10
  · refine (keep_acc w P B hPB hB f h6 lf rn lv cr ac e i r d l g n k h b9 b10 b11 b12 b3 b4 b5 b hb).mono (key _ ?_)
    rw [hsum' (by omega)]
    have e1 : accT ⟨f, lf, rn, lv, cr, ac, e, i, r, d, l⟩ b = ⟨f, lf, rn, lv, cr, (2 * ac + b) % 32768, e, i, r, d, l⟩ := if_pos h6
    rw [e1]
    unfold feedZ
    simp only []
    rw [if_neg h1, if_neg h2, if_neg h3, if_neg h4, if_neg h5]
  by_cases h7 : f ≤ 9
  · refine (keep_lo w P B hPB hB f (by omega) lf rn lv cr ac e i r d l g n k h b9 b10 b11 b12 b3 b4 b5 b hb).mono (key _ ?_)
    rw [hsum h7, hacc _ h6]
    unfold feedZ
    simp only []
    rw [if_neg h1, if_neg h2, if_neg h3, if_neg h4, if_neg h5]
  · refine (keep_hi w P B hPB hB f (by omega) lf rn lv cr ac e i r d l g n k h b9 b10 b11 b12 b3 b4 b5 b hb).mono (key _ ?_)
    rw [hsum' h7, hacc _ h6]
    unfold feedZ
    simp only []
    rw [if_neg h1, if_neg h2, if_neg h3, if_neg h4, if_neg h5]
end Go.Proofs.YtjmlalojfghkiaaDoor.G
