import Derived.Test.YtihndnclplkleaaIC
namespace Go.Proofs.Ytihndnclplkleaa
open Go.RowKit
/-- the filter that the marks from c on make -/
def mkF (c : Nat) : R3 := ⟨decide (c % 3 = 0), ((c + 1 : Nat) : Int), ((c + 2 : Nat) : Int)⟩
theorem mkF_row (C : Nat) : [Value.bool ((C : Int) % 3 == 0), .int .u32 ((C : Int) + 1), .int .u32 ((C : Int) + 1 + 1)] = [.bool (mkF C).e, .int .u32 (mkF C).m, .int .u32 (mkF C).k] := by
  have h1 : ((C : Int) % 3 == 0) = decide (C % 3 = 0) := by rw [Bool.eq_iff_iff]; simp; omega
  simp only [mkF, h1]
  congr 3
set_option maxHeartbeats 2000000 in
theorem markFilterS_any (w : World) (g n cap c : Nat) (hr : rowZ w g (n * 3)) (hcp : n ≤ cap) (hn : n ≤ 1048576) (hc : c ≤ 1000) :
    Calls Try.prog 18 #[.slice (some ⟨g, 0, none⟩) n cap, .int .i64 (c : Int)] w fun o w' => o = .returned (.int .i64 ((c + 3 * n : Nat) : Int)) ∧ (∀ j, j < n → at3 w' g (j * 3) (mkF (c + 3 * j))) ∧ rowZ w' g (n * 3) ∧ (∀ b, b ≠ g → w'.heap[b]? = w.heap[b]?) ∧ w'.heap.size = w.heap.size ∧ Below g w w' := by
  have HR : Hid (rowZ w g (n * 3)) := hr
  clear hr
  go_enter Try.func18, Try.ntmps18
  go_wp2
  go_loopw [1, 5] (fun kk i wr => ∃ k : Nat, k ≤ n ∧ i = .int .i64 (k : Int) ∧ kk = .int .i64 ((c + 3 * k : Nat) : Int) ∧ (∀ j, j < k → at3 wr g (j * 3) (mkF (c + 3 * j))) ∧ rowZ wr g (n * 3) ∧ (∀ b, b ≠ g → wr.heap[b]? = w.heap[b]?) ∧ wr.heap.size = w.heap.size ∧ Below g w wr) (fun _ i _ => n - (intOf i).toNat)
  case atStart => exact ⟨0, Nat.zero_le _, rfl, by go_num, fun j hj => absurd hj (Nat.not_lt_zero _), HR.out, fun _ _ => rfl, rfl, Below.refl _ _⟩
  case round =>
    obtain ⟨k, hk, rfl, rfl, hdone, hrow, hoth, hsz, hb⟩ := hrel
    by_cases hlt : k < n
    · obtain ⟨v0, z0⟩ := hrow.cell (k * 3) (by omega)
      obtain ⟨v1, z1⟩ := hrow.cell (k * 3 + 1) (by omega)
      obtain ⟨v2, z2⟩ := hrow.cell (k * 3 + 2) (by omega)
      have f0 := hrow.free (k * 3)
      have f1 := hrow.free (k * 3 + 1)
      have f2 := hrow.free (k * 3 + 2)
      have HD : Hid ((∀ j, j < k → at3 wr g (j * 3) (mkF (c + 3 * j))) ∧ rowZ wr g (n * 3) ∧ (∀ b, b ≠ g → wr.heap[b]? = w.heap[b]?) ∧ wr.heap.size = w.heap.size ∧ Below g w wr) := ⟨hdone, hrow, hoth, hsz, hb⟩
      clear hdone hrow hoth hsz hb
      generalize hC : c + 3 * k = C at *
      have HC : Hid (c + 3 * k = C) := hC
      have hC1 : C ≤ 4000000 := by omega
      clear hC
      have e3 : (C : Int).tmod 3 = ((C % 3 : Nat) : Int) := by rw [Int.tmod_eq_emod_of_nonneg (by omega)]; omega
      go_wp2
      obtain ⟨r1, r2, r3, r4, r5⟩ := HD.out
      have hC := HC.out
      refine ⟨⟨k + 1, by omega, by go_num, by rw [← hC]; go_num, fun j hj => ?_, r2.put [Value.bool ((C : Int) % 3 == 0), .int .u32 ((C : Int) + 1), .int .u32 ((C : Int) + 1 + 1)] (k * 3) (by simp; omega), fun b hb => (setRow_block g b hb [Value.bool ((C : Int) % 3 == 0), .int .u32 ((C : Int) + 1), .int .u32 ((C : Int) + 1 + 1)] wr (k * 3)).trans (r3 b hb), (setRow_size g [Value.bool ((C : Int) % 3 == 0), .int .u32 ((C : Int) + 1), .int .u32 ((C : Int) + 1 + 1)] wr (k * 3)).trans r4, setRow_below g g (Nat.le_refl _) w [Value.bool ((C : Int) % 3 == 0), .int .u32 ((C : Int) + 1), .int .u32 ((C : Int) + 1 + 1)] wr (k * 3) r5⟩, by simp [intOf]; omega⟩
      by_cases e : j = k
      · subst e
        have := at3.new r2 (j * 3) (by omega) (mkF C)
        rw [← mkF_row] at this
        rw [hC]
        exact this
      · exact (r1 j (by omega)).keep [Value.bool ((C : Int) % 3 == 0), .int .u32 ((C : Int) + 1), .int .u32 ((C : Int) + 1 + 1)] (k * 3) (by simp; omega)
    · have hkn : k = n := by omega
      subst hkn
      go_wp2
      go_ret
      exact ⟨rfl, hdone, hrow, hoth, hsz, hb⟩
set_option maxHeartbeats 2000000 in
theorem heldFilterS_any (w : World) (g n cap c : Nat) (hr : ∀ j, j < n → at3 w g (j * 3) (mkF (c + 3 * j))) (hcp : n ≤ cap) (hn : n ≤ 1048576) (hc : c ≤ 1000) :
    Calls Try.prog 52 #[.slice (some ⟨g, 0, none⟩) n cap, .int .i64 (c : Int)] w fun o w' => o = .returned (.int .i64 ((c + 3 * n : Nat) : Int)) ∧ Below w.heap.size w w' := by
  have HR : Hid (∀ j, j < n → at3 w g (j * 3) (mkF (c + 3 * j))) := hr
  clear hr
  go_enter Try.func52, Try.ntmps52
  go_wp2
  go_loopw [1, 5] (fun kk i wr => ∃ k q : Nat, k ≤ n ∧ i = .int .i64 (k : Int) ∧ kk = .int .i64 ((c + 3 * k : Nat) : Int) ∧ wr = w.drewN q) (fun _ i _ => n - (intOf i).toNat)
  case atStart => exact ⟨0, 0, Nat.zero_le _, rfl, by go_num, rfl⟩
  case round =>
    obtain ⟨k, q, hk, rfl, rfl, rfl⟩ := hrel
    by_cases hlt : k < n
    · have hx := HR.out k hlt
      have hgz := World.block_lt_of_cell? w _ hx.c0
      have x0 := ((below_q (B := w.heap.size) w q).cell (by exact hgz)).trans hx.c0
      have x1 := ((below_q (B := w.heap.size) w q).cell (by exact hgz)).trans hx.c1
      have x2 := ((below_q (B := w.heap.size) w q).cell (by exact hgz)).trans hx.c2
      clear hx
      generalize hC : c + 3 * k = C at *
      have HC : Hid (c + 3 * k = C) := hC
      have hC1 : C ≤ 4000000 := by omega
      clear hC
      have e3 : (C : Int).tmod 3 = ((C % 3 : Nat) : Int) := by rw [Int.tmod_eq_emod_of_nonneg (by omega)]; omega
      have h1 : (mkF C).e = ((C : Int) % 3 == 0) := by rw [Bool.eq_iff_iff]; simp [mkF]; omega
      have h2 : (mkF C).m = (C : Int) + 1 := by simp [mkF]
      have h3 : (mkF C).k = (C : Int) + 1 + 1 := by simp [mkF]; omega
      rw [h1] at x0
      rw [h2] at x1
      rw [h3] at x2
      clear h1 h2 h3
      generalize hW : w.drewN q = W at *
      have HW : Hid (W = w.drewN q) := hW.symm
      clear hW
      go_wp2
      refine ⟨⟨k + 1, q, by omega, by go_num, by rw [← HC.out]; go_num, HW.out⟩, by simp [intOf]; omega⟩
    · have hkn : k = n := by omega
      subst hkn
      go_wp2
      go_ret
      exact ⟨rfl, below_q w q⟩
end Go.Proofs.Ytihndnclplkleaa
