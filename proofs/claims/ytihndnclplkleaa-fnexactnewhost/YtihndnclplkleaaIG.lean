import Derived.Test.YtihndnclplkleaaIF
namespace Go.Proofs.Ytihndnclplkleaa
open Go.RowKit
set_option maxHeartbeats 8000000 in
set_option maxRecDepth 20000 in
theorem heldBoxS_any (w : World) (g n cap c : Nat) (hr : ∀ j, j < n → atM w g (j * 8) ((c + 7 * j : Nat) : Int)) (hcp : n ≤ cap) (hn : n ≤ 1000) (hc : c ≤ 4000000) :
    Calls Try.prog 53 #[.slice (some ⟨g, 0, none⟩) n cap, .int .i64 (c : Int)] w fun o w' => o = .returned (.int .i64 ((c + 7 * n : Nat) : Int)) ∧ w' = w := by
  have HR : Hid (∀ j, j < n → atM w g (j * 8) ((c + 7 * j : Nat) : Int)) := hr
  clear hr
  go_enter Try.func53, Try.ntmps53
  go_wp2
  go_loopw [1, 5] (fun kk i wr => ∃ k : Nat, k ≤ n ∧ i = .int .i64 (k : Int) ∧ kk = .int .i64 ((c + 7 * k : Nat) : Int) ∧ wr = w) (fun _ i _ => n - (intOf i).toNat)
  case atStart => exact ⟨0, Nat.zero_le _, rfl, by go_num, rfl⟩
  case round =>
    obtain ⟨k, hk, rfl, rfl, rfl⟩ := hrel
    by_cases hlt : k < n
    · have hx := HR.out k hlt
      generalize hC : c + 7 * k = C at *
      have HC : Hid (c + 7 * k = C) := hC
      have hC1 : C ≤ 5000000 := by omega
      clear hC
      have x0 : wr.cell? ⟨g, k * 8, none⟩ = some (.int .i64 (C : Int)) := hx.row 0 (by omega)
      have x1 : wr.cell? ⟨g, k * 8 + 1, none⟩ = some (.int .i64 ((C : Int) + 1)) := hx.row 1 (by omega)
      have x2 : wr.cell? ⟨g, k * 8 + 2, none⟩ = some (.int .i64 ((C : Int) + 1 + 1)) := hx.row 2 (by omega)
      have x3 : wr.cell? ⟨g, k * 8 + 3, none⟩ = some (.bool ((C : Int) % 3 == 0)) := hx.row 3 (by omega)
      have x4 : wr.cell? ⟨g, k * 8 + 4, none⟩ = some (.int .u32 ((C : Int) + 1 + 1 + 1 + 1)) := hx.row 4 (by omega)
      have x5 : wr.cell? ⟨g, k * 8 + 5, none⟩ = some (.bool (((C : Int) + 5) % 3 == 0)) := hx.row 5 (by omega)
      have x6 : wr.cell? ⟨g, k * 8 + 6, none⟩ = some (.int .i64 ((C : Int) + 1 + 1 + 1 + 1 + 1 + 1)) := hx.row 6 (by omega)
      have x7 := hx.dat
      clear hx
      have e3 : ((C : Int) + 1 + 1 + 1).tmod 3 = (((C + 3) % 3 : Nat) : Int) := by rw [Int.tmod_eq_emod_of_nonneg (by omega)]; omega
      have e5 : ((C : Int) + 1 + 1 + 1 + 1 + 1).tmod 3 = (((C + 5) % 3 : Nat) : Int) := by rw [Int.tmod_eq_emod_of_nonneg (by omega)]; omega
      have HB : Hid (∀ W, Calls Try.prog 74 #[.slice none 0 0, .int .i64 ((C : Int) + 1 + 1 + 1 + 1 + 1 + 1 + 1)] W fun o w' => o = .returned (.int .i64 ((C : Int) + 1 + 1 + 1 + 1 + 1 + 1 + 1)) ∧ w' = W) := fun W => by
        have := heldByte_nil W (C + 7)
        have e : (((C + 7 : Nat)) : Int) = (C : Int) + 1 + 1 + 1 + 1 + 1 + 1 + 1 := by omega
        rw [e] at this
        exact this
      have hnz : ¬ (C : Int) + 1 + 1 + 1 + 1 + 1 + 1 + 1 < 0 := by omega
      go_wp2_with (first | (go_at_call 74; refine (HB.out _).mono ?_; rintro o w5 ⟨rfl, rfl⟩))
      refine ⟨⟨k + 1, by omega, by go_num, by rw [show c + 7 * (k + 1) = C + 7 by have := HC.out; omega]; go_num, trivial⟩, by simp [intOf]; omega⟩
    · have hkn : k = n := by omega
      subst hkn
      go_wp2
      go_ret
      exact ⟨rfl, rfl⟩
end Go.Proofs.Ytihndnclplkleaa
