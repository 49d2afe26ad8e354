import Derived.Test.YtihndnclplkleaaIG
namespace Go.Proofs.Ytihndnclplkleaa
open Go.RowKit
theorem none50 (w : World) (c : Nat) : Calls Try.prog 50 #[.slice none 0 0, .int .i64 (c : Int)] w fun o w' => o = .returned (.int .i64 (c : Int)) ∧ w' = w := by
  go_enter Try.func50, Try.ntmps50
  go_wp2
  go_loopw [1, 5] (fun kk i wr => i = .int .i64 0 ∧ kk = .int .i64 (c : Int) ∧ wr = w) (fun _ _ _ => 0)
  case atStart => exact ⟨rfl, rfl, rfl⟩
  case round =>
    obtain ⟨rfl, rfl, rfl⟩ := hrel
    go_wp2
    go_ret
    exact ⟨rfl, rfl⟩
theorem none51 (w : World) (c : Nat) : Calls Try.prog 51 #[.slice none 0 0, .int .i64 (c : Int)] w fun o w' => o = .returned (.int .i64 (c : Int)) ∧ w' = w := by
  go_enter Try.func51, Try.ntmps51
  go_wp2
  go_loopw [1, 5] (fun kk i wr => i = .int .i64 0 ∧ kk = .int .i64 (c : Int) ∧ wr = w) (fun _ _ _ => 0)
  case atStart => exact ⟨rfl, rfl, rfl⟩
  case round =>
    obtain ⟨rfl, rfl, rfl⟩ := hrel
    go_wp2
    go_ret
    exact ⟨rfl, rfl⟩
theorem none54 (w : World) (c : Nat) : Calls Try.prog 54 #[.slice none 0 0, .int .i64 (c : Int)] w fun o w' => o = .returned (.int .i64 (c : Int)) ∧ w' = w := by
  go_enter Try.func54, Try.ntmps54
  go_wp2
  go_loopw [1, 5] (fun kk i wr => i = .int .i64 0 ∧ kk = .int .i64 (c : Int) ∧ wr = w) (fun _ _ _ => 0)
  case atStart => exact ⟨rfl, rfl, rfl⟩
  case round =>
    obtain ⟨rfl, rfl, rfl⟩ := hrel
    go_wp2
    go_ret
    exact ⟨rfl, rfl⟩
theorem none55 (w : World) (c : Nat) : Calls Try.prog 55 #[.slice none 0 0, .int .i64 (c : Int)] w fun o w' => o = .returned (.int .i64 (c : Int)) ∧ w' = w := by
  go_enter Try.func55, Try.ntmps55
  go_wp2
  go_loopw [1, 5] (fun kk i wr => i = .int .i64 0 ∧ kk = .int .i64 (c : Int) ∧ wr = w) (fun _ _ _ => 0)
  case atStart => exact ⟨rfl, rfl, rfl⟩
  case round =>
    obtain ⟨rfl, rfl, rfl⟩ := hrel
    go_wp2
    go_ret
    exact ⟨rfl, rfl⟩
theorem rowZ.up {W w : World} {g N : Nat} (h : rowZ w g N) (he : W.heap[g]? = w.heap[g]?) : rowZ W g N :=
  ⟨fun t ht => by obtain ⟨v, hv⟩ := h.cell t ht; exact ⟨v, cell_up hv he⟩, fun t => by have := h.free t; simp only [World.frozen?, he] at this ⊢; exact this⟩
theorem atM.up {W w : World} {g o : Nat} {C : Int} (h : atM w g o C) (he : W.heap[g]? = w.heap[g]?) : atM W g o C := ⟨fun t ht => cell_up (h.row t ht) he, cell_up h.dat he⟩
theorem cell_same {W w : World} {g : Nat} (he : W.heap[g]? = w.heap[g]?) (o : Nat) : W.cell? ⟨g, o, none⟩ = w.cell? ⟨g, o, none⟩ := by simp only [World.cell?, he]
theorem callMF (X : World) (p g n cap c : Nat) (hr : rowZ X g (n * 3)) (hp : p ≠ g) (hcp : n ≤ cap) (hn : n ≤ 1048576) (hc : c ≤ 1000) :
    Calls Try.prog 18 #[.slice (some ⟨g, 0, none⟩) n cap, .int .i64 (c : Int)] X fun o w' => o = .returned (.int .i64 ((c + 3 * n : Nat) : Int)) ∧ (∀ o, w'.cell? ⟨p, o, none⟩ = X.cell? ⟨p, o, none⟩) ∧ (∀ j, j < n → at3 w' g (j * 3) (mkF (c + 3 * j))) ∧ (∀ b, b ≠ g → w'.heap[b]? = X.heap[b]?) ∧ w'.heap.size = X.heap.size ∧ Below g X w' := by
  refine (markFilterS_any X g n cap c hr hcp hn hc).mono ?_
  rintro o w' ⟨h, a1, _, a2, a3, a4⟩
  exact ⟨h, cell_same (a2 p hp), a1, a2, a3, a4⟩
theorem callMB (X : World) (p g n cap c : Nat) (hr : rowZ X g (n * 8)) (hd : ∀ j, j < n → X.cell? ⟨g, j * 8 + 7, none⟩ = some (.slice none 0 0)) (hp : p ≠ g) (hcp : n ≤ cap) (hn : n ≤ 1000) (hc : c ≤ 4000000) :
    Calls Try.prog 49 #[.slice (some ⟨g, 0, none⟩) n cap, .int .i64 (c : Int)] X fun o w' => o = .returned (.int .i64 ((c + 7 * n : Nat) : Int)) ∧ (∀ o, w'.cell? ⟨p, o, none⟩ = X.cell? ⟨p, o, none⟩) ∧ (∀ j, j < n → atM w' g (j * 8) ((c + 7 * j : Nat) : Int)) ∧ (∀ b, b ≠ g → w'.heap[b]? = X.heap[b]?) ∧ w'.heap.size = X.heap.size ∧ Below g X w' := by
  refine (markBoxS_any X g n cap c hr hd hcp hn hc).mono ?_
  rintro o w' ⟨h, a1, _, a2, a3, a4⟩
  exact ⟨h, cell_same (a2 p hp), a1, a2, a3, a4⟩
set_option maxHeartbeats 4000000 in
set_option maxRecDepth 20000 in
theorem markHost_any (w : World) (c0 c1 c2 c3 lo st : Int) (g1 n1 k1 g2 n2 k2 c : Nat) (h1 : rowZ w g1 (n1 * 3)) (h2 : rowZ w g2 (n2 * 8)) (hd : ∀ j, j < n2 → w.cell? ⟨g2, j * 8 + 7, none⟩ = some (.slice none 0 0)) (hne : g1 ≠ g2) (hl1 : g1 < w.heap.size) (hl2 : g2 < w.heap.size)
    (hc1 : n1 ≤ k1) (hc2 : n2 ≤ k2) (hn1 : n1 ≤ 1000) (hn2 : n2 ≤ 1000) (hc : c ≤ 1000) :
    Calls Try.prog 19 #[.agg #[.int .i64 c0, .int .i64 c1, .int .i64 c2, .int .i64 c3, .slice (some ⟨g1, 0, none⟩) n1 k1, .slice (some ⟨g2, 0, none⟩) n2 k2, .slice none 0 0, .slice none 0 0, .int .i64 lo, .int .i64 st], .int .i64 (c : Int)] w fun o w' => o = .returned (.int .i64 ((c + 3 * n1 + 7 * n2 : Nat) : Int)) ∧ (∀ j, j < n1 → at3 w' g1 (j * 3) (mkF (c + 3 * j))) ∧ (∀ j, j < n2 → atM w' g2 (j * 8) ((c + 3 * n1 + 7 * j : Nat) : Int)) ∧ (∀ b, b ≠ g1 → b ≠ g2 → b < w.heap.size → w'.heap[b]? = w.heap[b]?) ∧ Below (min g1 g2) w w' := by
  have HH : Hid (rowZ w g1 (n1 * 3) ∧ rowZ w g2 (n2 * 8) ∧ ∀ j, j < n2 → w.cell? ⟨g2, j * 8 + 7, none⟩ = some (.slice none 0 0)) := ⟨h1, h2, hd⟩
  clear h1 h2 hd
  have HP1 : w.heap.size ≠ g1 := by omega
  have HP2 : w.heap.size ≠ g2 := by omega
  go_enter Try.func19, Try.ntmps19
  go_wp2_with (first | (go_at_call 18; refine (callMF _ w.heap.size g1 n1 k1 c (HH.out.1.up (((Below.refl w.heap.size w).alloc (Nat.le_refl _) _).block g1 hl1)) HP1 hc1 (by omega) hc).mono ?_; rintro o w1 ⟨rfl, cp1, a1, b1, s1, l1⟩; have HW1 : Hid (Below (min g1 g2) w w1) := (((Below.refl w.heap.size w).alloc (Nat.le_refl _) _).mono (by omega)).trans (l1.mono (by omega)); clear l1; have HA1 : Hid _ := a1; have HB1 : Hid (∀ b, b ≠ g1 → b < w.heap.size → w1.heap[b]? = w.heap[b]?) := (fun b hb hl => (b1 b hb).trans (((Below.refl w.heap.size w).alloc (Nat.le_refl _) _).block b hl)); clear a1 b1 s1) | (go_at_call 49; refine (callMB w1 w.heap.size g2 n2 k2 (c + 3 * n1) (HH.out.2.1.up (HB1.out g2 (Ne.symm hne) hl2)) (fun j hj => cell_up (HH.out.2.2 j hj) (HB1.out g2 (Ne.symm hne) hl2)) HP2 hc2 hn2 (by omega)).mono ?_; rintro o w2 ⟨rfl, cp2, a2, b2, s2, l2⟩; have HW2 : Hid (Below (min g1 g2) w w2) := HW1.out.trans (l2.mono (by omega)); clear l2; have HA2 : Hid _ := a2; have HB2 : Hid (∀ b, b ≠ g2 → w2.heap[b]? = w1.heap[b]?) := b2; clear a2 b2 s2) | (go_at_call 50; refine (none50 w2 _).mono ?_; rintro o w3 ⟨rfl, rfl⟩) | (go_at_call 51; refine (none51 _ _).mono ?_; rintro o w4 ⟨rfl, rfl⟩))
  go_ret
  refine ⟨rfl, fun j hj => (HA1.out j hj).up (HB2.out g1 hne), HA2.out, fun b e1 e2 hl => (HB2.out b e2).trans (HB1.out b e1 hl), HW2.out⟩
end Go.Proofs.Ytihndnclplkleaa
