import Derived.Test.YtaamahohdnbpiaaGreatG13
import Derived.Test.YtaamahohdnbpiaaGreatG04
namespace Go.Proofs.YtaamahohdnbpiaaGreat
open Go.RowKit
set_option linter.unusedVariables false
set_option maxHeartbeats 8000000 in
set_option maxRecDepth 20000 in
theorem heldBoxS_gen (w : World) (g n cap c : Nat) (hs : Nat → Hd) (h : sh8 w g n hs) (hm : ∀ j, j < n → mk8 w g (j * 8) (cn8 c hs j) (hs j)) (hcp : n ≤ cap) (hn : n ≤ 1048576) (hc : c ≤ 20000000000000) :
    Calls Tryz.prog 101 #[.slice (some ⟨g, 0, none⟩) n cap, .int .i64 (c : Int)] w fun o w' => o = .returned (.int .i64 (cn8 c hs n : Int)) ∧ w' = w := by
  have HSH : Hid (sh8 w g n hs) := h
  have HM : Hid (∀ j, j < n → mk8 w g (j * 8) (cn8 c hs j) (hs j)) := hm
  have HLE : Hid (∀ j, j ≤ n → cn8 c hs j ≤ c + j * 1048583) := cn8_le c n hs (fun j hj => (h.dat j hj).2.1)
  clear h hm
  go_enter Tryz.func101, Tryz.ntmps101
  go_wp2
  go_loopw [1, 5] (fun kk i wr => ∃ k : Nat, k ≤ n ∧ i = .int .i64 (k : Int) ∧ kk = .int .i64 (cn8 c hs k : Int) ∧ wr = w) (fun _ i _ => n - (intOf i).toNat)
  case atStart => exact ⟨0, Nat.zero_le _, rfl, rfl, rfl⟩
  case round =>
    obtain ⟨k, hk, rfl, rfl, rfl⟩ := hrel
    by_cases hlt : k < n
    · have hx := HM.out k hlt
      obtain ⟨zd, hh⟩ := HSH.out.dat k hlt
      have HCN : Hid (cn8 c hs (k + 1) = cn8 c hs k + 7 + (hs k).2.1) := rfl
      have hC1 : cn8 c hs k ≤ 30000000000000 := by have := HLE.out k hk; omega
      generalize hC : cn8 c hs k = C at *
      have HC : Hid (cn8 c hs k = C) := hC
      clear hC
      obtain ⟨t, ht⟩ : ∃ t, hs k = t := ⟨_, rfl⟩
      rw [ht] at zd hh HCN hx
      clear ht
      obtain ⟨a, m, cc⟩ := t
      simp only at zd
      have hm : m ≤ 1048576 := hh.1
      have x0 : wr.cell? ⟨g, k * 8, none⟩ = some (.int .i64 (C : Int)) := hx.row 0 (by omega)
      have x1 : wr.cell? ⟨g, k * 8 + 1, none⟩ = some (.int .i64 ((C : Int) + 1)) := hx.row 1 (by omega)
      have x2 : wr.cell? ⟨g, k * 8 + 2, none⟩ = some (.int .i64 ((C : Int) + 1 + 1)) := hx.row 2 (by omega)
      have x3 : wr.cell? ⟨g, k * 8 + 3, none⟩ = some (.bool ((C : Int) % 3 == 0)) := hx.row 3 (by omega)
      have x4 : wr.cell? ⟨g, k * 8 + 4, none⟩ = some (.int .u32 (((C : Int) + 1 + 1 + 1 + 1) % 4294967296)) := hx.row 4 (by omega)
      have x5 : wr.cell? ⟨g, k * 8 + 5, none⟩ = some (.bool (((C : Int) + 5) % 3 == 0)) := hx.row 5 (by omega)
      have x6 : wr.cell? ⟨g, k * 8 + 6, none⟩ = some (.int .i64 ((C : Int) + 1 + 1 + 1 + 1 + 1 + 1)) := hx.row 6 (by omega)
      have hdat := hx.dat
      have e3 : ((C : Int) + 1 + 1 + 1).tmod 3 = (((C + 3) % 3 : Nat) : Int) := by rw [Int.tmod_eq_emod_of_nonneg (by omega)]; omega
      have e5 : ((C : Int) + 1 + 1 + 1 + 1 + 1).tmod 3 = (((C + 5) % 3 : Nat) : Int) := by rw [Int.tmod_eq_emod_of_nonneg (by omega)]; omega
      have HB : Hid (Calls Tryz.prog 103 #[.slice a m cc, .int .i64 ((C : Int) + 1 + 1 + 1 + 1 + 1 + 1 + 1)] wr fun o w' => o = .returned (.int .i64 ((C : Int) + 7 + (m : Int))) ∧ w' = wr) := by
        have := heldHd wr g a m cc (C + 7) hh hdat (by omega)
        have e : (((C + 7 : Nat)) : Int) = (C : Int) + 1 + 1 + 1 + 1 + 1 + 1 + 1 := by omega
        have e2 : (((C + 7 + m : Nat)) : Int) = (C : Int) + 7 + (m : Int) := by omega
        rw [e, e2] at this
        exact this
      clear hx hh hdat
      have hnz : ¬ (C : Int) + 7 + (m : Int) < 0 := by omega
      go_wp2_with (first | (go_at_call 103; refine HB.out.mono ?_; rintro o w5 ⟨rfl, rfl⟩))
      refine ⟨⟨k + 1, by omega, by go_num, by rw [HCN.out]; congr 1, trivial⟩, by simp [intOf]; omega⟩
    · have hkn : k = n := by omega
      subst hkn
      go_wp2
      go_ret
      exact ⟨rfl, rfl⟩
set_option maxHeartbeats 8000000 in
set_option maxRecDepth 20000 in
theorem heldEventS_gen (w : World) (g n cap c : Nat) (hs : Nat → Hd) (h : sh8 w g n hs) (hm : ∀ j, j < n → mk8 w g (j * 8) (cn8 c hs j) (hs j)) (hcp : n ≤ cap) (hn : n ≤ 1048576) (hc : c ≤ 20000000000000) :
    Calls Tryz.prog 42 #[.slice (some ⟨g, 0, none⟩) n cap, .int .i64 (c : Int)] w fun o w' => o = .returned (.int .i64 (cn8 c hs n : Int)) ∧ w' = w := by
  have HSH : Hid (sh8 w g n hs) := h
  have HM : Hid (∀ j, j < n → mk8 w g (j * 8) (cn8 c hs j) (hs j)) := hm
  have HLE : Hid (∀ j, j ≤ n → cn8 c hs j ≤ c + j * 1048583) := cn8_le c n hs (fun j hj => (h.dat j hj).2.1)
  clear h hm
  go_enter Tryz.func42, Tryz.ntmps42
  go_wp2
  go_loopw [1, 5] (fun kk i wr => ∃ k : Nat, k ≤ n ∧ i = .int .i64 (k : Int) ∧ kk = .int .i64 (cn8 c hs k : Int) ∧ wr = w) (fun _ i _ => n - (intOf i).toNat)
  case atStart => exact ⟨0, Nat.zero_le _, rfl, rfl, rfl⟩
  case round =>
    obtain ⟨k, hk, rfl, rfl, rfl⟩ := hrel
    by_cases hlt : k < n
    · have hx := HM.out k hlt
      obtain ⟨zd, hh⟩ := HSH.out.dat k hlt
      have HCN : Hid (cn8 c hs (k + 1) = cn8 c hs k + 7 + (hs k).2.1) := rfl
      have hC1 : cn8 c hs k ≤ 30000000000000 := by have := HLE.out k hk; omega
      generalize hC : cn8 c hs k = C at *
      have HC : Hid (cn8 c hs k = C) := hC
      clear hC
      obtain ⟨t, ht⟩ : ∃ t, hs k = t := ⟨_, rfl⟩
      rw [ht] at zd hh HCN hx
      clear ht
      obtain ⟨a, m, cc⟩ := t
      simp only at zd
      have hm : m ≤ 1048576 := hh.1
      have x0 : wr.cell? ⟨g, k * 8, none⟩ = some (.int .i64 (C : Int)) := hx.row 0 (by omega)
      have x1 : wr.cell? ⟨g, k * 8 + 1, none⟩ = some (.int .i64 ((C : Int) + 1)) := hx.row 1 (by omega)
      have x2 : wr.cell? ⟨g, k * 8 + 2, none⟩ = some (.int .i64 ((C : Int) + 1 + 1)) := hx.row 2 (by omega)
      have x3 : wr.cell? ⟨g, k * 8 + 3, none⟩ = some (.bool ((C : Int) % 3 == 0)) := hx.row 3 (by omega)
      have x4 : wr.cell? ⟨g, k * 8 + 4, none⟩ = some (.int .u32 (((C : Int) + 1 + 1 + 1 + 1) % 4294967296)) := hx.row 4 (by omega)
      have x5 : wr.cell? ⟨g, k * 8 + 5, none⟩ = some (.bool (((C : Int) + 5) % 3 == 0)) := hx.row 5 (by omega)
      have x6 : wr.cell? ⟨g, k * 8 + 6, none⟩ = some (.int .i64 ((C : Int) + 1 + 1 + 1 + 1 + 1 + 1)) := hx.row 6 (by omega)
      have hdat := hx.dat
      have e3 : ((C : Int) + 1 + 1 + 1).tmod 3 = (((C + 3) % 3 : Nat) : Int) := by rw [Int.tmod_eq_emod_of_nonneg (by omega)]; omega
      have e5 : ((C : Int) + 1 + 1 + 1 + 1 + 1).tmod 3 = (((C + 5) % 3 : Nat) : Int) := by rw [Int.tmod_eq_emod_of_nonneg (by omega)]; omega
      have HB : Hid (Calls Tryz.prog 103 #[.slice a m cc, .int .i64 ((C : Int) + 1 + 1 + 1 + 1 + 1 + 1 + 1)] wr fun o w' => o = .returned (.int .i64 ((C : Int) + 7 + (m : Int))) ∧ w' = wr) := by
        have := heldHd wr g a m cc (C + 7) hh hdat (by omega)
        have e : (((C + 7 : Nat)) : Int) = (C : Int) + 1 + 1 + 1 + 1 + 1 + 1 + 1 := by omega
        have e2 : (((C + 7 + m : Nat)) : Int) = (C : Int) + 7 + (m : Int) := by omega
        rw [e, e2] at this
        exact this
      clear hx hh hdat
      have hnz : ¬ (C : Int) + 7 + (m : Int) < 0 := by omega
      go_wp2_with (first | (go_at_call 103; refine HB.out.mono ?_; rintro o w5 ⟨rfl, rfl⟩))
      refine ⟨⟨k + 1, by omega, by go_num, by rw [HCN.out]; congr 1, trivial⟩, by simp [intOf]; omega⟩
    · have hkn : k = n := by omega
      subst hkn
      go_wp2
      go_ret
      exact ⟨rfl, rfl⟩
set_option maxHeartbeats 8000000 in
set_option maxRecDepth 20000 in
theorem heldFrameS_gen (w : World) (g n cap c : Nat) (hs : Nat → Hd) (h : sh5 w g n hs) (hm : ∀ j, j < n → mk5 w g (j * 5) (cn5 c hs j) (hs j)) (hcp : n ≤ cap) (hn : n ≤ 1048576) (hc : c ≤ 20000000000000) :
    Calls Tryz.prog 102 #[.slice (some ⟨g, 0, none⟩) n cap, .int .i64 (c : Int)] w fun o w' => o = .returned (.int .i64 (cn5 c hs n : Int)) ∧ w' = w := by
  have HSH : Hid (sh5 w g n hs) := h
  have HM : Hid (∀ j, j < n → mk5 w g (j * 5) (cn5 c hs j) (hs j)) := hm
  have HLE : Hid (∀ j, j ≤ n → cn5 c hs j ≤ c + j * 1048583) := cn5_le c n hs (fun j hj => (h.dat j hj).2.1)
  clear h hm
  go_enter Tryz.func102, Tryz.ntmps102
  go_wp2
  go_loopw [1, 5] (fun kk i wr => ∃ k : Nat, k ≤ n ∧ i = .int .i64 (k : Int) ∧ kk = .int .i64 (cn5 c hs k : Int) ∧ wr = w) (fun _ i _ => n - (intOf i).toNat)
  case atStart => exact ⟨0, Nat.zero_le _, rfl, rfl, rfl⟩
  case round =>
    obtain ⟨k, hk, rfl, rfl, rfl⟩ := hrel
    by_cases hlt : k < n
    · have hx := HM.out k hlt
      obtain ⟨zd, hh⟩ := HSH.out.dat k hlt
      have HCN : Hid (cn5 c hs (k + 1) = cn5 c hs k + 4 + (hs k).2.1) := rfl
      have hC1 : cn5 c hs k ≤ 30000000000000 := by have := HLE.out k hk; omega
      generalize hC : cn5 c hs k = C at *
      have HC : Hid (cn5 c hs k = C) := hC
      clear hC
      obtain ⟨t, ht⟩ : ∃ t, hs k = t := ⟨_, rfl⟩
      rw [ht] at zd hh HCN hx
      clear ht
      obtain ⟨a, m, cc⟩ := t
      simp only at zd
      have hm : m ≤ 1048576 := hh.1
      have x0 : wr.cell? ⟨g, k * 5, none⟩ = some (.bool ((C : Int) % 3 == 0)) := hx.row 0 (by omega)
      have x1 : wr.cell? ⟨g, k * 5 + 1, none⟩ = some (.int .u32 (((C : Int) + 1) % 4294967296)) := hx.row 1 (by omega)
      have x2 : wr.cell? ⟨g, k * 5 + 2, none⟩ = some (.bool (((C : Int) + 2) % 3 == 0)) := hx.row 2 (by omega)
      have x3 : wr.cell? ⟨g, k * 5 + 3, none⟩ = some (.int .i64 ((C : Int) + 1 + 1 + 1)) := hx.row 3 (by omega)
      have hdat := hx.dat
      have e0 : ((C : Int)).tmod 3 = (((C + 0) % 3 : Nat) : Int) := by rw [Int.tmod_eq_emod_of_nonneg (by omega)]; omega
      have e2 : ((C : Int) + 1 + 1).tmod 3 = (((C + 2) % 3 : Nat) : Int) := by rw [Int.tmod_eq_emod_of_nonneg (by omega)]; omega
      have HB : Hid (Calls Tryz.prog 103 #[.slice a m cc, .int .i64 ((C : Int) + 1 + 1 + 1 + 1)] wr fun o w' => o = .returned (.int .i64 ((C : Int) + 4 + (m : Int))) ∧ w' = wr) := by
        have := heldHd wr g a m cc (C + 4) hh hdat (by omega)
        have e : (((C + 4 : Nat)) : Int) = (C : Int) + 1 + 1 + 1 + 1 := by omega
        have e2 : (((C + 4 + m : Nat)) : Int) = (C : Int) + 4 + (m : Int) := by omega
        rw [e, e2] at this
        exact this
      clear hx hh hdat
      have hnz : ¬ (C : Int) + 4 + (m : Int) < 0 := by omega
      go_wp2_with (first | (go_at_call 103; refine HB.out.mono ?_; rintro o w5 ⟨rfl, rfl⟩))
      refine ⟨⟨k + 1, by omega, by go_num, by rw [HCN.out]; congr 1, trivial⟩, by simp [intOf]; omega⟩
    · have hkn : k = n := by omega
      subst hkn
      go_wp2
      go_ret
      exact ⟨rfl, rfl⟩
end Go.Proofs.YtaamahohdnbpiaaGreat
namespace Go.Proofs.YtaamahohdnbpiaaGreat
open Go.RowKit
set_option linter.unusedVariables false
theorem at3.newF {w : World} {g M : Nat} (h : rowF w g M) (p : Nat) (hp : p + 3 ≤ M) (b : R3) : at3 (setRow w g p [.bool b.e, .int .u32 b.m, .int .u32 b.k]) g p b :=
  ⟨setRow_at g _ w p 0 (by simp) (h (p + 0) (by omega)).1, setRow_at g _ w p 1 (by simp) (h (p + 1) (by omega)).1, setRow_at g _ w p 2 (by simp) (h (p + 2) (by omega)).1⟩
set_option maxHeartbeats 2000000 in
theorem mark3 (B : Nat) (w : World) (g n cap c : Nat) (hr : rowF w g (n * 3)) (hcp : n ≤ cap) (hn : n ≤ 1048576) (hc : c ≤ 1000) (hB : B ≤ g) :
    Calls Tryz.prog 96 #[.slice (some ⟨g, 0, none⟩) n cap, .int .i64 (c : Int)] w fun o w' => o = .returned (.int .i64 ((c + 3 * n : Nat) : Int)) ∧ (∀ j, j < n → at3 w' g (j * 3) (mkF (c + 3 * j))) ∧ (∀ x N, rowF w x N → rowF w' x N) ∧ (∀ b, b ≠ g → w'.heap[b]? = w.heap[b]?) ∧ w'.heap.size = w.heap.size ∧ Below B w w' := by
  have HR : Hid (rowF w g (n * 3)) := hr
  clear hr
  go_enter Tryz.func96, Tryz.ntmps96
  go_wp2
  go_loopw [1, 5] (fun kk i wr => ∃ k : Nat, k ≤ n ∧ i = .int .i64 (k : Int) ∧ kk = .int .i64 ((c + 3 * k : Nat) : Int) ∧ (∀ j, j < k → at3 wr g (j * 3) (mkF (c + 3 * j))) ∧ (∀ x N, rowF w x N → rowF wr x N) ∧ (∀ b, b ≠ g → wr.heap[b]? = w.heap[b]?) ∧ wr.heap.size = w.heap.size ∧ Below B w wr) (fun _ i _ => n - (intOf i).toNat)
  case atStart => exact ⟨0, Nat.zero_le _, rfl, by go_num, fun j hj => absurd hj (Nat.not_lt_zero _), fun _ _ h => h, fun _ _ => rfl, rfl, Below.refl _ _⟩
  case round =>
    obtain ⟨k, hk, rfl, rfl, hdone, hrow, hoth, hsz, hb⟩ := hrel
    by_cases hlt : k < n
    · have hrw := hrow g (n * 3) HR.out
      obtain ⟨⟨v0, z0⟩, f0⟩ := hrw (k * 3) (by omega)
      obtain ⟨⟨v1, z1⟩, f1⟩ := hrw (k * 3 + 1) (by omega)
      obtain ⟨⟨v2, z2⟩, f2⟩ := hrw (k * 3 + 2) (by omega)
      have HD : Hid ((∀ j, j < k → at3 wr g (j * 3) (mkF (c + 3 * j))) ∧ (∀ x N, rowF w x N → rowF wr x N) ∧ (∀ b, b ≠ g → wr.heap[b]? = w.heap[b]?) ∧ wr.heap.size = w.heap.size ∧ Below B w wr ∧ rowF wr g (n * 3)) := ⟨hdone, hrow, hoth, hsz, hb, hrw⟩
      clear hdone hrow hoth hsz hb hrw
      generalize hC : c + 3 * k = C at *
      have HC : Hid (c + 3 * k = C) := hC
      have hC1 : C ≤ 4000000 := by omega
      clear hC
      have e3 : (C : Int).tmod 3 = ((C % 3 : Nat) : Int) := by rw [Int.tmod_eq_emod_of_nonneg (by omega)]; omega
      go_wp2
      obtain ⟨r1, r2, r3, r4, r5, r6⟩ := HD.out
      have hC := HC.out
      refine ⟨⟨k + 1, by omega, by go_num, by rw [← hC]; go_num, fun j hj => ?_, fun x N h => (r2 x N h).setRow g [Value.bool ((C : Int) % 3 == 0), .int .u32 ((C : Int) + 1), .int .u32 ((C : Int) + 1 + 1)] wr (k * 3), fun b hb => (setRow_block g b hb [Value.bool ((C : Int) % 3 == 0), .int .u32 ((C : Int) + 1), .int .u32 ((C : Int) + 1 + 1)] wr (k * 3)).trans (r3 b hb), (setRow_size g [Value.bool ((C : Int) % 3 == 0), .int .u32 ((C : Int) + 1), .int .u32 ((C : Int) + 1 + 1)] wr (k * 3)).trans r4, setRow_below g B hB w [Value.bool ((C : Int) % 3 == 0), .int .u32 ((C : Int) + 1), .int .u32 ((C : Int) + 1 + 1)] wr (k * 3) r5⟩, by simp [intOf]; omega⟩
      by_cases e : j = k
      · subst e
        have := at3.newF r6 (j * 3) (by omega) (mkF C)
        rw [← mkF_row] at this
        rw [hC]
        exact this
      · exact (r1 j (by omega)).keep [Value.bool ((C : Int) % 3 == 0), .int .u32 ((C : Int) + 1), .int .u32 ((C : Int) + 1 + 1)] (k * 3) (by simp; omega)
    · have hkn : k = n := by omega
      subst hkn
      go_wp2
      go_ret
      exact ⟨rfl, hdone, hrow, hoth, hsz, hb⟩
theorem nil98 (w : World) (c : Nat) : Calls Tryz.prog 98 #[.slice none 0 0, .int .i64 (c : Int)] w fun o w' => o = .returned (.int .i64 (c : Int)) ∧ w' = w := by
  go_enter Tryz.func98, Tryz.ntmps98
  go_wp2
  go_loopw [1, 5] (fun kk i wr => i = .int .i64 0 ∧ kk = .int .i64 (c : Int) ∧ wr = w) (fun _ _ _ => 0)
  case atStart => exact ⟨rfl, rfl, rfl⟩
  case round =>
    obtain ⟨rfl, rfl, rfl⟩ := hrel
    go_wp2
    go_ret
    exact ⟨rfl, rfl⟩
theorem nil40 (w : World) (c : Nat) : Calls Tryz.prog 40 #[.slice none 0 0, .int .i64 (c : Int)] w fun o w' => o = .returned (.int .i64 (c : Int)) ∧ w' = w := by
  go_enter Tryz.func40, Tryz.ntmps40
  go_wp2
  go_loopw [1, 5] (fun kk i wr => i = .int .i64 0 ∧ kk = .int .i64 (c : Int) ∧ wr = w) (fun _ _ _ => 0)
  case atStart => exact ⟨rfl, rfl, rfl⟩
  case round =>
    obtain ⟨rfl, rfl, rfl⟩ := hrel
    go_wp2
    go_ret
    exact ⟨rfl, rfl⟩
theorem nil102 (w : World) (c : Nat) : Calls Tryz.prog 102 #[.slice none 0 0, .int .i64 (c : Int)] w fun o w' => o = .returned (.int .i64 (c : Int)) ∧ w' = w := by
  go_enter Tryz.func102, Tryz.ntmps102
  go_wp2
  go_loopw [1, 5] (fun kk i wr => i = .int .i64 0 ∧ kk = .int .i64 (c : Int) ∧ wr = w) (fun _ _ _ => 0)
  case atStart => exact ⟨rfl, rfl, rfl⟩
  case round =>
    obtain ⟨rfl, rfl, rfl⟩ := hrel
    go_wp2
    go_ret
    exact ⟨rfl, rfl⟩
theorem nil42 (w : World) (c : Nat) : Calls Tryz.prog 42 #[.slice none 0 0, .int .i64 (c : Int)] w fun o w' => o = .returned (.int .i64 (c : Int)) ∧ w' = w := by
  go_enter Tryz.func42, Tryz.ntmps42
  go_wp2
  go_loopw [1, 5] (fun kk i wr => i = .int .i64 0 ∧ kk = .int .i64 (c : Int) ∧ wr = w) (fun _ _ _ => 0)
  case atStart => exact ⟨rfl, rfl, rfl⟩
  case round =>
    obtain ⟨rfl, rfl, rfl⟩ := hrel
    go_wp2
    go_ret
    exact ⟨rfl, rfl⟩
def ft (a : Option Addr) (n : Nat) (hs : Nat → Hd) (x : Nat) : Prop := a = some ⟨x, 0, none⟩ ∨ ∃ j, j < n ∧ (hs j).1 = some ⟨x, 0, none⟩
def inn (B T : Nat) (a : Option Addr) (n : Nat) (hs : Nat → Hd) : Prop := ∀ x, ft a n hs x → B ≤ x ∧ x < T
def sx8 (W : World) (a : Option Addr) (n cap : Nat) (hs : Nat → Hd) : Prop := (a = none ∧ n = 0 ∧ cap = 0) ∨ ∃ g, a = some ⟨g, 0, none⟩ ∧ sh8 W g n hs ∧ n ≤ cap
def sx5 (W : World) (a : Option Addr) (n cap : Nat) (hs : Nat → Hd) : Prop := (a = none ∧ n = 0 ∧ cap = 0) ∨ ∃ g, a = some ⟨g, 0, none⟩ ∧ sh5 W g n hs ∧ n ≤ cap
def mks8 (W : World) (a : Option Addr) (n c : Nat) (hs : Nat → Hd) : Prop := ∀ g, a = some ⟨g, 0, none⟩ → ∀ j, j < n → mk8 W g (j * 8) (cn8 c hs j) (hs j)
def mks5 (W : World) (a : Option Addr) (n c : Nat) (hs : Nat → Hd) : Prop := ∀ g, a = some ⟨g, 0, none⟩ → ∀ j, j < n → mk5 W g (j * 5) (cn5 c hs j) (hs j)
theorem mks8.up {W W' : World} {a : Option Addr} {n c : Nat} {hs : Nat → Hd} (h : mks8 W a n c hs) (he : ∀ x, ft a n hs x → W'.heap[x]? = W.heap[x]?) : mks8 W' a n c hs := fun g e j hj => (h g e j hj).up (he g (Or.inl e)) (fun b hb => he b (Or.inr ⟨j, hj, hb⟩))
theorem mks5.up {W W' : World} {a : Option Addr} {n c : Nat} {hs : Nat → Hd} (h : mks5 W a n c hs) (he : ∀ x, ft a n hs x → W'.heap[x]? = W.heap[x]?) : mks5 W' a n c hs := fun g e j hj => (h g e j hj).up (he g (Or.inl e)) (fun b hb => he b (Or.inr ⟨j, hj, hb⟩))
theorem hd.same {W W' : World} {g : Nat} {h : Hd} (H : hd W g h) (he : ∀ b, h.1 = some ⟨b, 0, none⟩ → W'.heap[b]? = W.heap[b]?) : hd W' g h := by
  obtain ⟨h1, h2, h3⟩ := H
  refine ⟨h1, h2, ?_⟩
  rcases h3 with h3 | ⟨b, e, hn, hf⟩
  · exact Or.inl h3
  · exact Or.inr ⟨b, e, hn, hf.up (he b e)⟩
theorem sh8.same {W W' : World} {g n : Nat} {hs : Nat → Hd} (h : sh8 W g n hs) (he : ∀ x, ft (some ⟨g, 0, none⟩) n hs x → W'.heap[x]? = W.heap[x]?) : sh8 W' g n hs :=
  ⟨h.row.up (he g (Or.inl rfl)), fun j hj => ⟨cell_up (h.dat j hj).1 (he g (Or.inl rfl)), (h.dat j hj).2.same fun b hb => he b (Or.inr ⟨j, hj, hb⟩)⟩⟩
theorem sh5.same {W W' : World} {g n : Nat} {hs : Nat → Hd} (h : sh5 W g n hs) (he : ∀ x, ft (some ⟨g, 0, none⟩) n hs x → W'.heap[x]? = W.heap[x]?) : sh5 W' g n hs :=
  ⟨h.row.up (he g (Or.inl rfl)), fun j hj => ⟨cell_up (h.dat j hj).1 (he g (Or.inl rfl)), (h.dat j hj).2.same fun b hb => he b (Or.inr ⟨j, hj, hb⟩)⟩⟩
theorem sx8.same {W W' : World} {a : Option Addr} {n cap : Nat} {hs : Nat → Hd} (h : sx8 W a n cap hs) (he : ∀ x, ft a n hs x → W'.heap[x]? = W.heap[x]?) : sx8 W' a n cap hs := by
  rcases h with h | ⟨g, e, h1, h2⟩
  · exact Or.inl h
  · subst e; exact Or.inr ⟨g, rfl, h1.same he, h2⟩
theorem sx5.same {W W' : World} {a : Option Addr} {n cap : Nat} {hs : Nat → Hd} (h : sx5 W a n cap hs) (he : ∀ x, ft a n hs x → W'.heap[x]? = W.heap[x]?) : sx5 W' a n cap hs := by
  rcases h with h | ⟨g, e, h1, h2⟩
  · exact Or.inl h
  · subst e; exact Or.inr ⟨g, rfl, h1.same he, h2⟩
theorem not_ft {a : Option Addr} {n : Nat} {hs : Nat → Hd} {g x : Nat} (ha : a = some ⟨g, 0, none⟩) (h : ¬ ft a n hs x) : x ≠ g ∧ ∀ j, j < n → (hs j).1 ≠ some ⟨x, 0, none⟩ := ⟨fun e => h (Or.inl (by rw [ha, e])), fun j hj e => h (Or.inr ⟨j, hj, e⟩)⟩
theorem nil97 (w : World) (c : Nat) : Calls Tryz.prog 97 #[.slice none 0 0, .int .i64 (c : Int)] w fun o w' => o = .returned (.int .i64 (c : Int)) ∧ w' = w := by
  go_enter Tryz.func97, Tryz.ntmps97
  go_wp2
  go_loopw [1, 5] (fun kk i wr => i = .int .i64 0 ∧ kk = .int .i64 (c : Int) ∧ wr = w) (fun _ _ _ => 0)
  case atStart => exact ⟨rfl, rfl, rfl⟩
  case round =>
    obtain ⟨rfl, rfl, rfl⟩ := hrel
    go_wp2
    go_ret
    exact ⟨rfl, rfl⟩
theorem nil101 (w : World) (c : Nat) : Calls Tryz.prog 101 #[.slice none 0 0, .int .i64 (c : Int)] w fun o w' => o = .returned (.int .i64 (c : Int)) ∧ w' = w := by
  go_enter Tryz.func101, Tryz.ntmps101
  go_wp2
  go_loopw [1, 5] (fun kk i wr => i = .int .i64 0 ∧ kk = .int .i64 (c : Int) ∧ wr = w) (fun _ _ _ => 0)
  case atStart => exact ⟨rfl, rfl, rfl⟩
  case round =>
    obtain ⟨rfl, rfl, rfl⟩ := hrel
    go_wp2
    go_ret
    exact ⟨rfl, rfl⟩
theorem markB_x (B T : Nat) (w : World) (p : Nat) (a : Option Addr) (n cap c : Nat) (hs : Nat → Hd) (h : sx8 w a n cap hs) (hi : inn B T a n hs) (hp : T ≤ p) (hn : n ≤ 1048576) (hc : c ≤ 20000000000000) :
    Calls Tryz.prog 97 #[.slice a n cap, .int .i64 (c : Int)] w fun o w' => o = .returned (.int .i64 (cn8 c hs n : Int)) ∧ (∀ o, w'.cell? ⟨p, o, none⟩ = w.cell? ⟨p, o, none⟩) ∧ (dst hs n → mks8 w' a n c hs) ∧ (∀ x N, rowF w x N → rowF w' x N) ∧ (∀ x, ¬ ft a n hs x → w'.heap[x]? = w.heap[x]?) ∧ sx8 w' a n cap hs ∧ w'.heap.size = w.heap.size ∧ Below B w w' := by
  have hpf : ¬ ft a n hs p := fun e => absurd (hi p e).2 (by omega)
  rcases h with ⟨ha, hn0, hcp0⟩ | ⟨g, rfl, h, hcp⟩
  · subst ha hn0 hcp0
    refine (nil97 w c).mono ?_
    rintro o w' ⟨rfl, rfl⟩
    exact ⟨rfl, fun _ => rfl, fun _ g e => absurd e (by simp), fun _ _ h => h, fun _ _ => rfl, Or.inl ⟨rfl, rfl, rfl⟩, rfl, Below.refl _ _⟩
  · refine (markBoxS_gen B w g n cap c hs h hcp hn hc (hi g (Or.inl rfl)).1 (fun j hj b hb => (hi b (Or.inr ⟨j, hj, hb⟩)).1)).mono ?_
    rintro o w' ⟨rfl, q1, q2, q3, q4, q5, q6⟩
    have q4' : ∀ x, ¬ ft (some ⟨g, 0, none⟩) n hs x → w'.heap[x]? = w.heap[x]? := fun x hx => q4 x (not_ft rfl hx).1 (not_ft rfl hx).2
    exact ⟨rfl, fun o => by simp only [World.cell?, q4' p hpf], fun hd g' e j hj => by cases e; exact q1 hd j hj, q3, q4', Or.inr ⟨g, rfl, q2, hcp⟩, q5, q6⟩
theorem markF_x (B T : Nat) (w : World) (p : Nat) (a : Option Addr) (n cap c : Nat) (hs : Nat → Hd) (h : sx5 w a n cap hs) (hi : inn B T a n hs) (hp : T ≤ p) (hn : n ≤ 1048576) (hc : c ≤ 20000000000000) :
    Calls Tryz.prog 98 #[.slice a n cap, .int .i64 (c : Int)] w fun o w' => o = .returned (.int .i64 (cn5 c hs n : Int)) ∧ (∀ o, w'.cell? ⟨p, o, none⟩ = w.cell? ⟨p, o, none⟩) ∧ (dst hs n → mks5 w' a n c hs) ∧ (∀ x N, rowF w x N → rowF w' x N) ∧ (∀ x, ¬ ft a n hs x → w'.heap[x]? = w.heap[x]?) ∧ sx5 w' a n cap hs ∧ w'.heap.size = w.heap.size ∧ Below B w w' := by
  have hpf : ¬ ft a n hs p := fun e => absurd (hi p e).2 (by omega)
  rcases h with ⟨ha, hn0, hcp0⟩ | ⟨g, rfl, h, hcp⟩
  · subst ha hn0 hcp0
    refine (nil98 w c).mono ?_
    rintro o w' ⟨rfl, rfl⟩
    exact ⟨rfl, fun _ => rfl, fun _ g e => absurd e (by simp), fun _ _ h => h, fun _ _ => rfl, Or.inl ⟨rfl, rfl, rfl⟩, rfl, Below.refl _ _⟩
  · refine (markFrameS_gen B w g n cap c hs h hcp hn hc (hi g (Or.inl rfl)).1 (fun j hj b hb => (hi b (Or.inr ⟨j, hj, hb⟩)).1)).mono ?_
    rintro o w' ⟨rfl, q1, q2, q3, q4, q5, q6⟩
    have q4' : ∀ x, ¬ ft (some ⟨g, 0, none⟩) n hs x → w'.heap[x]? = w.heap[x]? := fun x hx => q4 x (not_ft rfl hx).1 (not_ft rfl hx).2
    exact ⟨rfl, fun o => by simp only [World.cell?, q4' p hpf], fun hd g' e j hj => by cases e; exact q1 hd j hj, q3, q4', Or.inr ⟨g, rfl, q2, hcp⟩, q5, q6⟩
theorem markE_x (B T : Nat) (w : World) (p : Nat) (a : Option Addr) (n cap c : Nat) (hs : Nat → Hd) (h : sx8 w a n cap hs) (hi : inn B T a n hs) (hp : T ≤ p) (hn : n ≤ 1048576) (hc : c ≤ 20000000000000) :
    Calls Tryz.prog 40 #[.slice a n cap, .int .i64 (c : Int)] w fun o w' => o = .returned (.int .i64 (cn8 c hs n : Int)) ∧ (∀ o, w'.cell? ⟨p, o, none⟩ = w.cell? ⟨p, o, none⟩) ∧ (dst hs n → mks8 w' a n c hs) ∧ (∀ x N, rowF w x N → rowF w' x N) ∧ (∀ x, ¬ ft a n hs x → w'.heap[x]? = w.heap[x]?) ∧ sx8 w' a n cap hs ∧ w'.heap.size = w.heap.size ∧ Below B w w' := by
  have hpf : ¬ ft a n hs p := fun e => absurd (hi p e).2 (by omega)
  rcases h with ⟨ha, hn0, hcp0⟩ | ⟨g, rfl, h, hcp⟩
  · subst ha hn0 hcp0
    refine (nil40 w c).mono ?_
    rintro o w' ⟨rfl, rfl⟩
    exact ⟨rfl, fun _ => rfl, fun _ g e => absurd e (by simp), fun _ _ h => h, fun _ _ => rfl, Or.inl ⟨rfl, rfl, rfl⟩, rfl, Below.refl _ _⟩
  · refine (markEventS_gen B w g n cap c hs h hcp hn hc (hi g (Or.inl rfl)).1 (fun j hj b hb => (hi b (Or.inr ⟨j, hj, hb⟩)).1)).mono ?_
    rintro o w' ⟨rfl, q1, q2, q3, q4, q5, q6⟩
    have q4' : ∀ x, ¬ ft (some ⟨g, 0, none⟩) n hs x → w'.heap[x]? = w.heap[x]? := fun x hx => q4 x (not_ft rfl hx).1 (not_ft rfl hx).2
    exact ⟨rfl, fun o => by simp only [World.cell?, q4' p hpf], fun hd g' e j hj => by cases e; exact q1 hd j hj, q3, q4', Or.inr ⟨g, rfl, q2, hcp⟩, q5, q6⟩
theorem heldB_x (w : World) (a : Option Addr) (n cap c : Nat) (hs : Nat → Hd) (h : sx8 w a n cap hs) (hm : mks8 w a n c hs) (hn : n ≤ 1048576) (hc : c ≤ 20000000000000) :
    Calls Tryz.prog 101 #[.slice a n cap, .int .i64 (c : Int)] w fun o w' => o = .returned (.int .i64 (cn8 c hs n : Int)) ∧ w' = w := by
  rcases h with ⟨ha, hn0, hcp0⟩ | ⟨g, rfl, h, hcp⟩
  · subst ha hn0 hcp0
    exact nil101 w c
  · exact heldBoxS_gen w g n cap c hs h (hm g rfl) hcp hn hc
theorem heldF_x (w : World) (a : Option Addr) (n cap c : Nat) (hs : Nat → Hd) (h : sx5 w a n cap hs) (hm : mks5 w a n c hs) (hn : n ≤ 1048576) (hc : c ≤ 20000000000000) :
    Calls Tryz.prog 102 #[.slice a n cap, .int .i64 (c : Int)] w fun o w' => o = .returned (.int .i64 (cn5 c hs n : Int)) ∧ w' = w := by
  rcases h with ⟨ha, hn0, hcp0⟩ | ⟨g, rfl, h, hcp⟩
  · subst ha hn0 hcp0
    exact nil102 w c
  · exact heldFrameS_gen w g n cap c hs h (hm g rfl) hcp hn hc
theorem heldE_x (w : World) (a : Option Addr) (n cap c : Nat) (hs : Nat → Hd) (h : sx8 w a n cap hs) (hm : mks8 w a n c hs) (hn : n ≤ 1048576) (hc : c ≤ 20000000000000) :
    Calls Tryz.prog 42 #[.slice a n cap, .int .i64 (c : Int)] w fun o w' => o = .returned (.int .i64 (cn8 c hs n : Int)) ∧ w' = w := by
  rcases h with ⟨ha, hn0, hcp0⟩ | ⟨g, rfl, h, hcp⟩
  · subst ha hn0 hcp0
    exact nil42 w c
  · exact heldEventS_gen w g n cap c hs h (hm g rfl) hcp hn hc
end Go.Proofs.YtaamahohdnbpiaaGreat
namespace Go.Proofs.YtaamahohdnbpiaaGreat
open Go.RowKit
set_option linter.unusedVariables false
structure Wh where
  g1 : Nat
  n1 : Nat
  k1 : Nat
  a2 : Option Addr
  n2 : Nat
  k2 : Nat
  h2 : Nat → Hd
  a3 : Option Addr
  n3 : Nat
  k3 : Nat
  h3 : Nat → Hd
  a4 : Option Addr
  n4 : Nat
  k4 : Nat
  h4 : Nat → Hd
abbrev Wh.sl (s : Wh) : Sl := ⟨some ⟨s.g1, 0, none⟩, s.n1, s.k1, s.a2, s.n2, s.k2, s.a3, s.n3, s.k3, s.a4, s.n4, s.k4⟩
structure whS (B T : Nat) (W : World) (s : Wh) : Prop where
  f : rowF W s.g1 (s.n1 * 3)
  fc : s.n1 ≤ s.k1
  fb : B ≤ s.g1 ∧ s.g1 < T
  x : sx8 W s.a2 s.n2 s.k2 s.h2
  xb : inn B T s.a2 s.n2 s.h2
  r : sx5 W s.a3 s.n3 s.k3 s.h3
  rb : inn B T s.a3 s.n3 s.h3
  q : sx8 W s.a4 s.n4 s.k4 s.h4
  qb : inn B T s.a4 s.n4 s.h4
  m1 : s.n1 ≤ 1048576
  m2 : s.n2 ≤ 1048576
  m3 : s.n3 ≤ 1048576
  m4 : s.n4 ≤ 1048576
theorem whS.same {B T : Nat} {W W' : World} {s : Wh} (h : whS B T W s) (he : ∀ x, B ≤ x → x < T → W'.heap[x]? = W.heap[x]?) : whS B T W' s :=
  ⟨h.f.up (he _ h.fb.1 h.fb.2), h.fc, h.fb, h.x.same (fun x hx => he x (h.xb x hx).1 (h.xb x hx).2), h.xb, h.r.same (fun x hx => he x (h.rb x hx).1 (h.rb x hx).2), h.rb, h.q.same (fun x hx => he x (h.qb x hx).1 (h.qb x hx).2), h.qb, h.m1, h.m2, h.m3, h.m4⟩
structure whD (s : Wh) : Prop where
  s12 : ¬ ft s.a2 s.n2 s.h2 s.g1
  s13 : ¬ ft s.a3 s.n3 s.h3 s.g1
  s14 : ¬ ft s.a4 s.n4 s.h4 s.g1
  s23 : ∀ x, ft s.a2 s.n2 s.h2 x → ¬ ft s.a3 s.n3 s.h3 x
  s24 : ∀ x, ft s.a2 s.n2 s.h2 x → ¬ ft s.a4 s.n4 s.h4 x
  s34 : ∀ x, ft s.a3 s.n3 s.h3 x → ¬ ft s.a4 s.n4 s.h4 x
def Wh.c1 (s : Wh) (c : Nat) : Nat := c + 3 * s.n1
def Wh.c2 (s : Wh) (c : Nat) : Nat := cn8 (s.c1 c) s.h2 s.n2
def Wh.c3 (s : Wh) (c : Nat) : Nat := cn5 (s.c2 c) s.h3 s.n3
def Wh.c4 (s : Wh) (c : Nat) : Nat := cn8 (s.c3 c) s.h4 s.n4
structure whE (s : Wh) : Prop where
  d2 : dst s.h2 s.n2
  d3 : dst s.h3 s.n3
  d4 : dst s.h4 s.n4
structure whM (W : World) (s : Wh) (c : Nat) : Prop where
  f : ∀ j, j < s.n1 → at3 W s.g1 (j * 3) (mkF (c + 3 * j))
  x : mks8 W s.a2 s.n2 (s.c1 c) s.h2
  r : mks5 W s.a3 s.n3 (s.c2 c) s.h3
  q : mks8 W s.a4 s.n4 (s.c3 c) s.h4
theorem sx8.bd {W : World} {a : Option Addr} {n cap : Nat} {hs : Nat → Hd} (h : sx8 W a n cap hs) : ∀ j, j < n → (hs j).2.1 ≤ 1048576 := by
  rcases h with ⟨_, e, _⟩ | ⟨g, _, h, _⟩
  · intro j hj; omega
  · intro j hj; exact (h.dat j hj).2.1
theorem sx5.bd {W : World} {a : Option Addr} {n cap : Nat} {hs : Nat → Hd} (h : sx5 W a n cap hs) : ∀ j, j < n → (hs j).2.1 ≤ 1048576 := by
  rcases h with ⟨_, e, _⟩ | ⟨g, _, h, _⟩
  · intro j hj; omega
  · intro j hj; exact (h.dat j hj).2.1
theorem whS.c1 {B T : Nat} {W : World} {s : Wh} (h : whS B T W s) {c : Nat} (hc : c ≤ 1000) : s.c1 c ≤ 4000000 := by have := h.m1; unfold Wh.c1; omega
theorem whS.c2 {B T : Nat} {W : World} {s : Wh} (h : whS B T W s) {c : Nat} (hc : c ≤ 1000) : s.c2 c ≤ 2000000000000 := by
  have h1 := h.c1 hc
  have h2 := cn8_le (s.c1 c) s.n2 s.h2 h.x.bd s.n2 (Nat.le_refl _)
  have h3 := h.m2
  unfold Wh.c2
  omega
theorem whS.c3 {B T : Nat} {W : World} {s : Wh} (h : whS B T W s) {c : Nat} (hc : c ≤ 1000) : s.c3 c ≤ 4000000000000 := by
  have h1 := h.c2 hc
  have h2 := cn5_le (s.c2 c) s.n3 s.h3 h.r.bd s.n3 (Nat.le_refl _)
  have h3 := h.m3
  unfold Wh.c3
  omega
theorem whS.c4 {B T : Nat} {W : World} {s : Wh} (h : whS B T W s) {c : Nat} (hc : c ≤ 1000) : s.c4 c ≤ 6000000000000 := by
  have h1 := h.c3 hc
  have h2 := cn8_le (s.c3 c) s.n4 s.h4 h.q.bd s.n4 (Nat.le_refl _)
  have h3 := h.m4
  unfold Wh.c4
  omega
theorem mark3_x (B T : Nat) (w : World) (p g n cap c : Nat) (hr : rowF w g (n * 3)) (hcp : n ≤ cap) (hn : n ≤ 1048576) (hc : c ≤ 1000) (hB : B ≤ g) (hT : g < T) (hp : T ≤ p) :
    Calls Tryz.prog 96 #[.slice (some ⟨g, 0, none⟩) n cap, .int .i64 (c : Int)] w fun o w' => o = .returned (.int .i64 ((c + 3 * n : Nat) : Int)) ∧ (∀ o, w'.cell? ⟨p, o, none⟩ = w.cell? ⟨p, o, none⟩) ∧ (∀ j, j < n → at3 w' g (j * 3) (mkF (c + 3 * j))) ∧ (∀ x N, rowF w x N → rowF w' x N) ∧ (∀ b, b ≠ g → w'.heap[b]? = w.heap[b]?) ∧ w'.heap.size = w.heap.size ∧ Below B w w' := by
  refine (mark3 B w g n cap c hr hcp hn hc hB).mono ?_
  rintro o w' ⟨rfl, q1, q2, q3, q4, q5⟩
  exact ⟨rfl, fun o => by simp only [World.cell?, q3 p (by omega)], q1, q2, q3, q4, q5⟩
set_option maxHeartbeats 4000000 in
set_option maxRecDepth 20000 in
theorem markHost_gen (B T : Nat) (w : World) (c0 c1 c2 c3 lo st : Int) (s : Wh) (c : Nat) (h : whS B T w s) (hd : whD s) (hT : T ≤ w.heap.size) (hc : c ≤ 1000) :
    Calls Tryz.prog 39 #[.agg #[.int .i64 c0, .int .i64 c1, .int .i64 c2, .int .i64 c3, .slice (some ⟨s.g1, 0, none⟩) s.n1 s.k1, .slice s.a2 s.n2 s.k2, .slice s.a3 s.n3 s.k3, .slice s.a4 s.n4 s.k4, .int .i64 lo, .int .i64 st], .int .i64 (c : Int)] w fun o w' => o = .returned (.int .i64 (s.c4 c : Int)) ∧ (whE s → whM w' s c) ∧ whS B T w' s ∧ (∀ x, (x < B ∨ T ≤ x) → x < w.heap.size → w'.heap[x]? = w.heap[x]?) ∧ Below B w w' := by
  have HK : Hid (s.c1 c ≤ 20000000000000 ∧ s.c2 c ≤ 20000000000000 ∧ s.c3 c ≤ 20000000000000) := ⟨by have := h.c1 hc; omega, by have := h.c2 hc; omega, by have := h.c3 hc; omega⟩
  have HD : Hid (whD s) := hd
  have HA : Hid (∀ o : Obj, whS B T (w.alloc o) s) := fun o => h.same fun x _ hx => Below.heap_alloc w _ x (by omega)
  have HBA : Hid (∀ o : Obj, Below B w (w.alloc o)) := fun o => (Below.refl _ _).alloc (by have := h.fb; omega) _
  have HNA : Hid (∀ (o : Obj) x, x < w.heap.size → (w.alloc o).heap[x]? = w.heap[x]?) := fun o x hx => Below.heap_alloc w _ x hx
  clear h hd
  go_enter Tryz.func39, Tryz.ntmps39
  go_wp2_with (first
    | (go_at_call 96; refine (mark3_x B T _ w.heap.size s.g1 s.n1 s.k1 c (HA.out _).f (HA.out (.cells #[] 3)).fc (HA.out (.cells #[] 3)).m1 hc (HA.out (.cells #[] 3)).fb.1 (HA.out (.cells #[] 3)).fb.2 hT).mono ?_; rintro o w1 ⟨rfl, cp1, q1, q2, q3, q4, q5⟩; have HS1 : Hid (whS B T w1 s ∧ Below B w w1 ∧ (∀ j, j < s.n1 → at3 w1 s.g1 (j * 3) (mkF (c + 3 * j))) ∧ (∀ x, (x < B ∨ T ≤ x) → x < w.heap.size → w1.heap[x]? = w.heap[x]?)) := ⟨⟨q2 _ _ (HA.out _).f, (HA.out (.cells #[] 3)).fc, (HA.out (.cells #[] 3)).fb, (HA.out _).x.same (fun x hx => q3 x (fun e => HD.out.s12 (by rw [← e]; exact hx))), (HA.out (.cells #[] 3)).xb, (HA.out _).r.same (fun x hx => q3 x (fun e => HD.out.s13 (by rw [← e]; exact hx))), (HA.out (.cells #[] 3)).rb, (HA.out _).q.same (fun x hx => q3 x (fun e => HD.out.s14 (by rw [← e]; exact hx))), (HA.out (.cells #[] 3)).qb, (HA.out (.cells #[] 3)).m1, (HA.out (.cells #[] 3)).m2, (HA.out (.cells #[] 3)).m3, (HA.out (.cells #[] 3)).m4⟩, (HBA.out _).trans q5, q1, fun x hx hxl => (q3 x (by have := (HA.out (.cells #[] 3)).fb; omega)).trans (HNA.out _ x hxl)⟩; clear q1 q2 q3 q4 q5)
    | (go_at_call 97; refine (markB_x B T w1 w.heap.size s.a2 s.n2 s.k2 (s.c1 c) s.h2 HS1.out.1.x HS1.out.1.xb hT HS1.out.1.m2 HK.out.1).mono ?_; rintro o w2 ⟨rfl, cp2, q1, q2, q3, qs, q4, q5⟩; have HS2 : Hid (whS B T w2 s ∧ Below B w w2 ∧ (whE s → (∀ j, j < s.n1 → at3 w2 s.g1 (j * 3) (mkF (c + 3 * j))) ∧ mks8 w2 s.a2 s.n2 (s.c1 c) s.h2) ∧ (∀ x, (x < B ∨ T ≤ x) → x < w.heap.size → w2.heap[x]? = w.heap[x]?)) := ⟨⟨q2 _ _ HS1.out.1.f, HS1.out.1.fc, HS1.out.1.fb, qs, HS1.out.1.xb, HS1.out.1.r.same (fun x hx => q3 x (fun e => HD.out.s23 x e hx)), HS1.out.1.rb, HS1.out.1.q.same (fun x hx => q3 x (fun e => HD.out.s24 x e hx)), HS1.out.1.qb, HS1.out.1.m1, HS1.out.1.m2, HS1.out.1.m3, HS1.out.1.m4⟩, HS1.out.2.1.trans q5, fun he => ⟨fun j hj => (HS1.out.2.2.1 j hj).up (q3 _ HD.out.s12), q1 he.d2⟩, fun x hx hxl => (q3 x (fun e => by have := HS1.out.1.xb x e; omega)).trans (HS1.out.2.2.2 x hx hxl)⟩; clear q1 q2 q3 qs q4 q5)
    | (go_at_call 98; refine (markF_x B T w2 w.heap.size s.a3 s.n3 s.k3 (s.c2 c) s.h3 HS2.out.1.r HS2.out.1.rb hT HS2.out.1.m3 HK.out.2.1).mono ?_; rintro o w3 ⟨rfl, cp3, q1, q2, q3, qs, q4, q5⟩; have HS3 : Hid (whS B T w3 s ∧ Below B w w3 ∧ (whE s → (∀ j, j < s.n1 → at3 w3 s.g1 (j * 3) (mkF (c + 3 * j))) ∧ mks8 w3 s.a2 s.n2 (s.c1 c) s.h2 ∧ mks5 w3 s.a3 s.n3 (s.c2 c) s.h3) ∧ (∀ x, (x < B ∨ T ≤ x) → x < w.heap.size → w3.heap[x]? = w.heap[x]?)) := ⟨⟨q2 _ _ HS2.out.1.f, HS2.out.1.fc, HS2.out.1.fb, HS2.out.1.x.same (fun x hx => q3 x (HD.out.s23 x hx)), HS2.out.1.xb, qs, HS2.out.1.rb, HS2.out.1.q.same (fun x hx => q3 x (fun e => HD.out.s34 x e hx)), HS2.out.1.qb, HS2.out.1.m1, HS2.out.1.m2, HS2.out.1.m3, HS2.out.1.m4⟩, HS2.out.2.1.trans q5, fun he => ⟨fun j hj => ((HS2.out.2.2.1 he).1 j hj).up (q3 _ HD.out.s13), (HS2.out.2.2.1 he).2.up (fun x hx => q3 x (HD.out.s23 x hx)), q1 he.d3⟩, fun x hx hxl => (q3 x (fun e => by have := HS2.out.1.rb x e; omega)).trans (HS2.out.2.2.2 x hx hxl)⟩; clear q1 q2 q3 qs q4 q5)
    | (go_at_call 40; refine (markE_x B T w3 w.heap.size s.a4 s.n4 s.k4 (s.c3 c) s.h4 HS3.out.1.q HS3.out.1.qb hT HS3.out.1.m4 HK.out.2.2).mono ?_; rintro o w4 ⟨rfl, cp4, q1, q2, q3, qs, q4, q5⟩; have HS4 : Hid (whS B T w4 s ∧ Below B w w4 ∧ (whE s → (∀ j, j < s.n1 → at3 w4 s.g1 (j * 3) (mkF (c + 3 * j))) ∧ mks8 w4 s.a2 s.n2 (s.c1 c) s.h2 ∧ mks5 w4 s.a3 s.n3 (s.c2 c) s.h3 ∧ mks8 w4 s.a4 s.n4 (s.c3 c) s.h4) ∧ (∀ x, (x < B ∨ T ≤ x) → x < w.heap.size → w4.heap[x]? = w.heap[x]?)) := ⟨⟨q2 _ _ HS3.out.1.f, HS3.out.1.fc, HS3.out.1.fb, HS3.out.1.x.same (fun x hx => q3 x (HD.out.s24 x hx)), HS3.out.1.xb, HS3.out.1.r.same (fun x hx => q3 x (HD.out.s34 x hx)), HS3.out.1.rb, qs, HS3.out.1.qb, HS3.out.1.m1, HS3.out.1.m2, HS3.out.1.m3, HS3.out.1.m4⟩, HS3.out.2.1.trans q5, fun he => ⟨fun j hj => ((HS3.out.2.2.1 he).1 j hj).up (q3 _ HD.out.s14), (HS3.out.2.2.1 he).2.1.up (fun x hx => q3 x (HD.out.s24 x hx)), (HS3.out.2.2.1 he).2.2.up (fun x hx => q3 x (HD.out.s34 x hx)), q1 he.d4⟩, fun x hx hxl => (q3 x (fun e => by have := HS3.out.1.qb x e; omega)).trans (HS3.out.2.2.2 x hx hxl)⟩; clear q1 q2 q3 qs q4 q5))
  go_ret
  exact ⟨rfl, fun he => ⟨(HS4.out.2.2.1 he).1, (HS4.out.2.2.1 he).2.1, (HS4.out.2.2.1 he).2.2.1, (HS4.out.2.2.1 he).2.2.2⟩, HS4.out.1, HS4.out.2.2.2, HS4.out.2.1⟩
theorem whM.same {B T : Nat} {W W' : World} {s : Wh} {c : Nat} (h : whM W s c) (hs : whS B T W s) (he : ∀ x, B ≤ x → x < T → W'.heap[x]? = W.heap[x]?) : whM W' s c :=
  ⟨fun j hj => (h.f j hj).up (he _ hs.fb.1 hs.fb.2), h.x.up (fun x hx => he x (hs.xb x hx).1 (hs.xb x hx).2), h.r.up (fun x hx => he x (hs.rb x hx).1 (hs.rb x hx).2), h.q.up (fun x hx => he x (hs.qb x hx).1 (hs.qb x hx).2)⟩
set_option maxHeartbeats 4000000 in
set_option maxRecDepth 20000 in
theorem heldHost_gen (B T : Nat) (w : World) (c0 c1 c2 c3 lo st : Int) (s : Wh) (c : Nat) (h : whS B T w s) (hm : whM w s c) (hT : T ≤ w.heap.size) (hc : c ≤ 1000) :
    Calls Tryz.prog 41 #[.agg #[.int .i64 c0, .int .i64 c1, .int .i64 c2, .int .i64 c3, .slice (some ⟨s.g1, 0, none⟩) s.n1 s.k1, .slice s.a2 s.n2 s.k2, .slice s.a3 s.n3 s.k3, .slice s.a4 s.n4 s.k4, .int .i64 lo, .int .i64 st], .int .i64 (c : Int)] w fun o w' => o = .returned (.int .i64 (s.c4 c : Int)) ∧ Below w.heap.size w w' := by
  have HK : Hid (s.c1 c ≤ 20000000000000 ∧ s.c2 c ≤ 20000000000000 ∧ s.c3 c ≤ 20000000000000) := ⟨by have := h.c1 hc; omega, by have := h.c2 hc; omega, by have := h.c3 hc; omega⟩
  have HA : Hid (∀ W, Below w.heap.size w W → whS B T W s ∧ whM W s c) := fun W hW => ⟨h.same fun x _ hx => hW.block x (by omega), hm.same h fun x _ hx => hW.block x (by omega)⟩
  have HBA : Hid (∀ o : Obj, Below w.heap.size w (w.alloc o)) := fun o => (Below.refl _ _).alloc (Nat.le_refl _) _
  clear h hm
  go_enter Tryz.func41, Tryz.ntmps41
  go_wp2_with (first
    | (go_at_call 100; refine (heldFilterS_any _ s.g1 s.n1 s.k1 c (HA.out _ (HBA.out _)).2.f (HA.out _ (HBA.out (.cells #[] 3))).1.fc (HA.out _ (HBA.out (.cells #[] 3))).1.m1 hc).mono ?_; rintro o w1 ⟨rfl, q1⟩; have HB1 : Hid (Below w.heap.size w w1) := (HBA.out _).trans (q1.mono (by simp)); have cp1 := fun o => q1.cell (p := ⟨w.heap.size, o, none⟩) (by simp); clear q1; have n1 : ¬ ((s.c1 c : Nat) : Int) < 0 := by omega)
    | (go_at_call 101; refine (heldB_x _ s.a2 s.n2 s.k2 (s.c1 c) s.h2 (HA.out _ HB1.out).1.x (HA.out _ HB1.out).2.x (HA.out _ HB1.out).1.m2 HK.out.1).mono ?_; rintro o w2 ⟨rfl, rfl⟩; have n2 : ¬ ((s.c2 c : Nat) : Int) < 0 := by omega)
    | (go_at_call 102; refine (heldF_x _ s.a3 s.n3 s.k3 (s.c2 c) s.h3 (HA.out _ HB1.out).1.r (HA.out _ HB1.out).2.r (HA.out _ HB1.out).1.m3 HK.out.2.1).mono ?_; rintro o w3 ⟨rfl, rfl⟩; have n3 : ¬ ((s.c3 c : Nat) : Int) < 0 := by omega)
    | (go_at_call 42; refine (heldE_x _ s.a4 s.n4 s.k4 (s.c3 c) s.h4 (HA.out _ HB1.out).1.q (HA.out _ HB1.out).2.q (HA.out _ HB1.out).1.m4 HK.out.2.2).mono ?_; rintro o w4 ⟨rfl, rfl⟩; have n4 : ¬ ((s.c4 c : Nat) : Int) < 0 := by omega))
  go_ret
  exact ⟨rfl, HB1.out⟩
end Go.Proofs.YtaamahohdnbpiaaGreat
