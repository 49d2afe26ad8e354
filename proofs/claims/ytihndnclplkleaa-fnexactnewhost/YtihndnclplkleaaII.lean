import Derived.Test.YtihndnclplkleaaIH
namespace Go.Proofs.Ytihndnclplkleaa
open Go.RowKit
theorem callHF (X : World) (p g n cap c : Nat) (hr : ∀ j, j < n → at3 X g (j * 3) (mkF (c + 3 * j))) (hp : p < X.heap.size) (hcp : n ≤ cap) (hn : n ≤ 1048576) (hc : c ≤ 1000) :
    Calls Try.prog 52 #[.slice (some ⟨g, 0, none⟩) n cap, .int .i64 (c : Int)] X fun o w' => o = .returned (.int .i64 ((c + 3 * n : Nat) : Int)) ∧ (∀ o, w'.cell? ⟨p, o, none⟩ = X.cell? ⟨p, o, none⟩) ∧ Below X.heap.size X w' := by
  refine (heldFilterS_any X g n cap c hr hcp hn hc).mono ?_
  rintro o w' ⟨h, hb⟩
  exact ⟨h, cell_same (hb.block p hp), hb⟩
set_option maxHeartbeats 4000000 in
set_option maxRecDepth 20000 in
theorem heldHost_any (w : World) (c0 c1 c2 c3 lo st : Int) (g1 n1 k1 g2 n2 k2 c : Nat) (h1 : ∀ j, j < n1 → at3 w g1 (j * 3) (mkF (c + 3 * j))) (h2 : ∀ j, j < n2 → atM w g2 (j * 8) ((c + 3 * n1 + 7 * j : Nat) : Int)) (hl1 : g1 < w.heap.size) (hl2 : g2 < w.heap.size)
    (hc1 : n1 ≤ k1) (hc2 : n2 ≤ k2) (hn1 : n1 ≤ 1000) (hn2 : n2 ≤ 1000) (hc : c ≤ 1000) :
    Calls Try.prog 20 #[.agg #[.int .i64 c0, .int .i64 c1, .int .i64 c2, .int .i64 c3, .slice (some ⟨g1, 0, none⟩) n1 k1, .slice (some ⟨g2, 0, none⟩) n2 k2, .slice none 0 0, .slice none 0 0, .int .i64 lo, .int .i64 st], .int .i64 (c : Int)] w fun o w' => o = .returned (.int .i64 ((c + 3 * n1 + 7 * n2 : Nat) : Int)) ∧ Below w.heap.size w w' := by
  have HH : Hid ((∀ j, j < n1 → at3 w g1 (j * 3) (mkF (c + 3 * j))) ∧ (∀ j, j < n2 → atM w g2 (j * 8) ((c + 3 * n1 + 7 * j : Nat) : Int))) := ⟨h1, h2⟩
  clear h1 h2
  have z1 : ¬ ((c + 3 * n1 : Nat) : Int) < 0 := by omega
  have z2 : ¬ ((c + 3 * n1 + 7 * n2 : Nat) : Int) < 0 := by omega
  generalize hD1 : c + 3 * n1 = D1 at *
  generalize hD2 : D1 + 7 * n2 = D2 at *
  have E1 : Hid (c + 3 * n1 = D1) := hD1
  have E2 : Hid (D1 + 7 * n2 = D2) := hD2
  clear hD1 hD2
  have hq1 : D1 ≤ 4000000 := by have := E1.out; omega
  have hq2 : D2 ≤ 8000000 := by have := E2.out; omega
  go_enter Try.func20, Try.ntmps20
  go_wp2_with (first | (go_at_call 52; refine (callHF _ w.heap.size g1 n1 k1 c (fun j hj => (HH.out.1 j hj).up (((Below.refl w.heap.size w).alloc (Nat.le_refl _) _).block g1 hl1)) (by simp) hc1 (by omega) hc).mono ?_; rw [E1.out]; rintro o w1 ⟨rfl, cp1, b1⟩; have HB1 : Hid (Below w.heap.size w w1) := ((Below.refl w.heap.size w).alloc (Nat.le_refl _) _).trans (b1.mono (by simp)); clear b1) | (go_at_call 53; refine (heldBoxS_any w1 g2 n2 k2 D1 (fun j hj => (HH.out.2 j hj).up (HB1.out.block g2 hl2)) hc2 hn2 hq1).mono ?_; rw [E2.out]; rintro o w2 ⟨rfl, rfl⟩) | (go_at_call 54; refine (none54 _ D2).mono ?_; rintro o w3 ⟨rfl, rfl⟩) | (go_at_call 55; refine (none55 _ D2).mono ?_; rintro o w4 ⟨rfl, rfl⟩))
  go_ret
  exact ⟨rfl, HB1.out⟩
end Go.Proofs.Ytihndnclplkleaa
