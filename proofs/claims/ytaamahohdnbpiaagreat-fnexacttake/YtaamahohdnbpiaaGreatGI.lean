import Derived.Test.YtaamahohdnbpiaaGreatGB
namespace Go.Proofs.YtaamahohdnbpiaaGreat
open Go.RowKit
/-- no bytes: nothing to mark -/
theorem markByte_nil (w : World) (c : Nat) : Calls Tryz.prog 99 #[.slice none 0 0, .int .i64 (c : Int)] w fun o w' => o = .returned (.int .i64 (c : Int)) ∧ w' = w := by
  go_enter Tryz.func99, Tryz.ntmps99
  go_wp2
  go_loopw [1, 5] (fun kk i wr => i = .int .i64 0 ∧ kk = .int .i64 (c : Int) ∧ wr = w) (fun _ _ _ => 0)
  case atStart => exact ⟨rfl, rfl, rfl⟩
  case round =>
    obtain ⟨rfl, rfl, rfl⟩ := hrel
    go_wp2
    go_ret
    exact ⟨rfl, rfl⟩
theorem heldByte_nil (w : World) (c : Nat) : Calls Tryz.prog 103 #[.slice none 0 0, .int .i64 (c : Int)] w fun o w' => o = .returned (.int .i64 (c : Int)) ∧ w' = w := by
  go_enter Tryz.func103, Tryz.ntmps103
  go_wp2
  go_loopw [1, 5] (fun kk i wr => i = .int .i64 0 ∧ kk = .int .i64 (c : Int) ∧ wr = w) (fun _ _ _ => 0)
  case atStart => exact ⟨rfl, rfl, rfl⟩
  case round =>
    obtain ⟨rfl, rfl, rfl⟩ := hrel
    go_wp2
    go_ret
    exact ⟨rfl, rfl⟩
/-- the cells of a box without data that the marks from C on make -/
def m8 (C : Int) : List Value := [.int .i64 C, .int .i64 (C + 1), .int .i64 (C + 1 + 1), .bool (C % 3 == 0), .int .u32 (C + 1 + 1 + 1 + 1), .bool ((C + 5) % 3 == 0), .int .i64 (C + 1 + 1 + 1 + 1 + 1 + 1)]
structure atM (w : World) (g o : Nat) (C : Int) : Prop where
  row : ∀ t (h : t < 7), w.cell? ⟨g, o + t, none⟩ = some ((m8 C)[t]'(by simpa [m8] using h))
  dat : w.cell? ⟨g, o + 7, none⟩ = some (.slice none 0 0)
theorem atM.new {w : World} {g M : Nat} (h : rowZ w g M) (p : Nat) (hp : p + 8 ≤ M) (C : Int) (hd : w.cell? ⟨g, p + 7, none⟩ = some (.slice none 0 0)) : atM (setRow w g p (m8 C)) g p C :=
  ⟨fun t ht => setRow_at g (m8 C) w p t (by simpa [m8] using ht) (h.cell (p + t) (by omega)), (setRow_other g (m8 C) w p (p + 7) (by simp [m8])).trans hd⟩
theorem atM.keep {w : World} {g o : Nat} {C : Int} (h : atM w g o C) (vs : List Value) (p : Nat) (hp : o + 8 ≤ p ∨ p + vs.length ≤ o) : atM (setRow w g p vs) g o C :=
  ⟨fun t ht => (setRow_other g vs w p (o + t) (by omega)).trans (h.row t ht), (setRow_other g vs w p (o + 7) (by omega)).trans h.dat⟩
set_option maxHeartbeats 4000000 in
theorem markBoxS_any (w : World) (g n cap c : Nat) (hr : rowZ w g (n * 8)) (hd : ∀ j, j < n → w.cell? ⟨g, j * 8 + 7, none⟩ = some (.slice none 0 0)) (hcp : n ≤ cap) (hn : n ≤ 1000) (hc : c ≤ 4000000) :
    Calls Tryz.prog 97 #[.slice (some ⟨g, 0, none⟩) n cap, .int .i64 (c : Int)] w fun o w' => o = .returned (.int .i64 ((c + 7 * n : Nat) : Int)) ∧ (∀ j, j < n → atM w' g (j * 8) ((c + 7 * j : Nat) : Int)) ∧ rowZ w' g (n * 8) ∧ (∀ b, b ≠ g → w'.heap[b]? = w.heap[b]?) ∧ w'.heap.size = w.heap.size ∧ Below g w w' := by
  have HR : Hid (rowZ w g (n * 8) ∧ ∀ j, j < n → w.cell? ⟨g, j * 8 + 7, none⟩ = some (.slice none 0 0)) := ⟨hr, hd⟩
  clear hr hd
  go_enter Tryz.func97, Tryz.ntmps97
  go_wp2
  go_loopw [1, 5] (fun kk i wr => ∃ k : Nat, k ≤ n ∧ i = .int .i64 (k : Int) ∧ kk = .int .i64 ((c + 7 * k : Nat) : Int) ∧ (∀ j, j < k → atM wr g (j * 8) ((c + 7 * j : Nat) : Int)) ∧ (∀ j, j < n → wr.cell? ⟨g, j * 8 + 7, none⟩ = some (.slice none 0 0)) ∧ rowZ wr g (n * 8) ∧ (∀ b, b ≠ g → wr.heap[b]? = w.heap[b]?) ∧ wr.heap.size = w.heap.size ∧ Below g w wr) (fun _ i _ => n - (intOf i).toNat)
  case atStart => exact ⟨0, Nat.zero_le _, rfl, by go_num, fun j hj => absurd hj (Nat.not_lt_zero _), HR.out.2, HR.out.1, fun _ _ => rfl, rfl, Below.refl _ _⟩
  case round =>
    obtain ⟨k, hk, rfl, rfl, hdone, hdat, hrow, hoth, hsz, hb⟩ := hrel
    by_cases hlt : k < n
    · obtain ⟨v0, z0⟩ := hrow.cell (k * 8) (by omega)
      obtain ⟨v1, z1⟩ := hrow.cell (k * 8 + 1) (by omega)
      obtain ⟨v2, z2⟩ := hrow.cell (k * 8 + 2) (by omega)
      obtain ⟨v3, z3⟩ := hrow.cell (k * 8 + 3) (by omega)
      obtain ⟨v4, z4⟩ := hrow.cell (k * 8 + 4) (by omega)
      obtain ⟨v5, z5⟩ := hrow.cell (k * 8 + 5) (by omega)
      obtain ⟨v6, z6⟩ := hrow.cell (k * 8 + 6) (by omega)
      have z7 := hdat k hlt
      have f0 := hrow.free (k * 8)
      have f1 := hrow.free (k * 8 + 1)
      have f2 := hrow.free (k * 8 + 2)
      have f3 := hrow.free (k * 8 + 3)
      have f4 := hrow.free (k * 8 + 4)
      have f5 := hrow.free (k * 8 + 5)
      have f6 := hrow.free (k * 8 + 6)
      have HD : Hid ((∀ j, j < k → atM wr g (j * 8) ((c + 7 * j : Nat) : Int)) ∧ (∀ j, j < n → wr.cell? ⟨g, j * 8 + 7, none⟩ = some (.slice none 0 0)) ∧ rowZ wr g (n * 8) ∧ (∀ b, b ≠ g → wr.heap[b]? = w.heap[b]?) ∧ wr.heap.size = w.heap.size ∧ Below g w wr) := ⟨hdone, hdat, hrow, hoth, hsz, hb⟩
      clear hdone hdat hrow hoth hsz hb
      generalize hC : c + 7 * k = C at *
      have HC : Hid (c + 7 * k = C) := hC
      have hC1 : C ≤ 5000000 := by omega
      clear hC
      have e3 : ((C : Int) + 1 + 1 + 1).tmod 3 = (((C + 3) % 3 : Nat) : Int) := by rw [Int.tmod_eq_emod_of_nonneg (by omega)]; omega
      have e5 : ((C : Int) + 1 + 1 + 1 + 1 + 1).tmod 3 = (((C + 5) % 3 : Nat) : Int) := by rw [Int.tmod_eq_emod_of_nonneg (by omega)]; omega
      have HB : Hid (∀ W, Calls Tryz.prog 99 #[.slice none 0 0, .int .i64 ((C : Int) + 1 + 1 + 1 + 1 + 1 + 1 + 1)] W fun o w' => o = .returned (.int .i64 ((C : Int) + 1 + 1 + 1 + 1 + 1 + 1 + 1)) ∧ w' = W) := fun W => by
        have := markByte_nil W (C + 7)
        have e : (((C + 7 : Nat)) : Int) = (C : Int) + 1 + 1 + 1 + 1 + 1 + 1 + 1 := by omega
        rw [e] at this
        exact this
      go_wp2_with (first | (go_at_call 99; refine (HB.out _).mono ?_; rintro o w5 ⟨rfl, rfl⟩))
      obtain ⟨r1, r0, r2, r3, r4, r5⟩ := HD.out
      have hC := HC.out
      have hl7 : (m8 (C : Int)).length = 7 := rfl
      refine ⟨⟨k + 1, by omega, by go_num, by rw [show c + 7 * (k + 1) = C + 7 by omega]; go_num, fun j hj => (?_ : atM (setRow wr g (k * 8) (m8 (C : Int))) g (j * 8) ((c + 7 * j : Nat) : Int)), fun j hj => ((setRow_other g (m8 (C : Int)) wr (k * 8) (j * 8 + 7) (by omega)).trans (r0 j hj)), r2.put (m8 (C : Int)) (k * 8) (by omega), fun b hb => (setRow_block g b hb (m8 (C : Int)) wr (k * 8)).trans (r3 b hb), (setRow_size g (m8 (C : Int)) wr (k * 8)).trans r4, setRow_below g g (Nat.le_refl _) w (m8 (C : Int)) wr (k * 8) r5⟩, by simp [intOf]; omega⟩
      by_cases e : j = k
      · subst e
        rw [hC]
        exact atM.new r2 (j * 8) (by omega) _ (r0 j hlt)
      · exact (r1 j (by omega)).keep (m8 (C : Int)) (k * 8) (by omega)
    · have hkn : k = n := by omega
      subst hkn
      go_wp2
      go_ret
      exact ⟨rfl, hdone, hrow, hoth, hsz, hb⟩
end Go.Proofs.YtaamahohdnbpiaaGreat
namespace Go.Proofs.YtaamahohdnbpiaaGreat
open Go.RowKit
set_option maxHeartbeats 8000000 in
set_option maxRecDepth 20000 in
theorem heldBoxS_any (w : World) (g n cap c : Nat) (hr : ∀ j, j < n → atM w g (j * 8) ((c + 7 * j : Nat) : Int)) (hcp : n ≤ cap) (hn : n ≤ 1000) (hc : c ≤ 4000000) :
    Calls Tryz.prog 101 #[.slice (some ⟨g, 0, none⟩) n cap, .int .i64 (c : Int)] w fun o w' => o = .returned (.int .i64 ((c + 7 * n : Nat) : Int)) ∧ w' = w := by
  have HR : Hid (∀ j, j < n → atM w g (j * 8) ((c + 7 * j : Nat) : Int)) := hr
  clear hr
  go_enter Tryz.func101, Tryz.ntmps101
  go_wp2
  go_loopw [1, 5] (fun kk i wr => ∃ k : Nat, k ≤ n ∧ i = .int .i64 (k : Int) ∧ kk = .int .i64 ((c + 7 * k : Nat) : Int) ∧ wr = w) (fun _ i _ => n - (intOf i).toNat)
  case atStart => exact ⟨0, Nat.zero_le _, rfl, by go_num, rfl⟩
  case round =>
    obtain ⟨k, hk, rfl, rfl, rfl⟩ := hrel
    by_cases hlt : k < n
    · have hx := HR.out k hlt
      generalize hC : c + 7 * k = C at *
      have HC : Hid (c + 7 * k = C) := hC
      have hC1 : C ≤ 5000000 := by omega
      clear hC
      have x0 : wr.cell? ⟨g, k * 8, none⟩ = some (.int .i64 (C : Int)) := hx.row 0 (by omega)
      have x1 : wr.cell? ⟨g, k * 8 + 1, none⟩ = some (.int .i64 ((C : Int) + 1)) := hx.row 1 (by omega)
      have x2 : wr.cell? ⟨g, k * 8 + 2, none⟩ = some (.int .i64 ((C : Int) + 1 + 1)) := hx.row 2 (by omega)
      have x3 : wr.cell? ⟨g, k * 8 + 3, none⟩ = some (.bool ((C : Int) % 3 == 0)) := hx.row 3 (by omega)
      have x4 : wr.cell? ⟨g, k * 8 + 4, none⟩ = some (.int .u32 ((C : Int) + 1 + 1 + 1 + 1)) := hx.row 4 (by omega)
      have x5 : wr.cell? ⟨g, k * 8 + 5, none⟩ = some (.bool (((C : Int) + 5) % 3 == 0)) := hx.row 5 (by omega)
      have x6 : wr.cell? ⟨g, k * 8 + 6, none⟩ = some (.int .i64 ((C : Int) + 1 + 1 + 1 + 1 + 1 + 1)) := hx.row 6 (by omega)
      have x7 := hx.dat
      clear hx
      have e3 : ((C : Int) + 1 + 1 + 1).tmod 3 = (((C + 3) % 3 : Nat) : Int) := by rw [Int.tmod_eq_emod_of_nonneg (by omega)]; omega
      have e5 : ((C : Int) + 1 + 1 + 1 + 1 + 1).tmod 3 = (((C + 5) % 3 : Nat) : Int) := by rw [Int.tmod_eq_emod_of_nonneg (by omega)]; omega
      have HB : Hid (∀ W, Calls Tryz.prog 103 #[.slice none 0 0, .int .i64 ((C : Int) + 1 + 1 + 1 + 1 + 1 + 1 + 1)] W fun o w' => o = .returned (.int .i64 ((C : Int) + 1 + 1 + 1 + 1 + 1 + 1 + 1)) ∧ w' = W) := fun W => by
        have := heldByte_nil W (C + 7)
        have e : (((C + 7 : Nat)) : Int) = (C : Int) + 1 + 1 + 1 + 1 + 1 + 1 + 1 := by omega
        rw [e] at this
        exact this
      have hnz : ¬ (C : Int) + 1 + 1 + 1 + 1 + 1 + 1 + 1 < 0 := by omega
      go_wp2_with (first | (go_at_call 103; refine (HB.out _).mono ?_; rintro o w5 ⟨rfl, rfl⟩))
      refine ⟨⟨k + 1, by omega, by go_num, by rw [show c + 7 * (k + 1) = C + 7 by have := HC.out; omega]; go_num, trivial⟩, by simp [intOf]; omega⟩
    · have hkn : k = n := by omega
      subst hkn
      go_wp2
      go_ret
      exact ⟨rfl, rfl⟩
end Go.Proofs.YtaamahohdnbpiaaGreat
namespace Go.Proofs.YtaamahohdnbpiaaGreat
open Go.RowKit
theorem none50 (w : World) (c : Nat) : Calls Tryz.prog 98 #[.slice none 0 0, .int .i64 (c : Int)] w fun o w' => o = .returned (.int .i64 (c : Int)) ∧ w' = w := by
  go_enter Tryz.func98, Tryz.ntmps98
  go_wp2
  go_loopw [1, 5] (fun kk i wr => i = .int .i64 0 ∧ kk = .int .i64 (c : Int) ∧ wr = w) (fun _ _ _ => 0)
  case atStart => exact ⟨rfl, rfl, rfl⟩
  case round =>
    obtain ⟨rfl, rfl, rfl⟩ := hrel
    go_wp2
    go_ret
    exact ⟨rfl, rfl⟩
theorem none51 (w : World) (c : Nat) : Calls Tryz.prog 40 #[.slice none 0 0, .int .i64 (c : Int)] w fun o w' => o = .returned (.int .i64 (c : Int)) ∧ w' = w := by
  go_enter Tryz.func40, Tryz.ntmps40
  go_wp2
  go_loopw [1, 5] (fun kk i wr => i = .int .i64 0 ∧ kk = .int .i64 (c : Int) ∧ wr = w) (fun _ _ _ => 0)
  case atStart => exact ⟨rfl, rfl, rfl⟩
  case round =>
    obtain ⟨rfl, rfl, rfl⟩ := hrel
    go_wp2
    go_ret
    exact ⟨rfl, rfl⟩
theorem none54 (w : World) (c : Nat) : Calls Tryz.prog 102 #[.slice none 0 0, .int .i64 (c : Int)] w fun o w' => o = .returned (.int .i64 (c : Int)) ∧ w' = w := by
  go_enter Tryz.func102, Tryz.ntmps102
  go_wp2
  go_loopw [1, 5] (fun kk i wr => i = .int .i64 0 ∧ kk = .int .i64 (c : Int) ∧ wr = w) (fun _ _ _ => 0)
  case atStart => exact ⟨rfl, rfl, rfl⟩
  case round =>
    obtain ⟨rfl, rfl, rfl⟩ := hrel
    go_wp2
    go_ret
    exact ⟨rfl, rfl⟩
theorem none55 (w : World) (c : Nat) : Calls Tryz.prog 42 #[.slice none 0 0, .int .i64 (c : Int)] w fun o w' => o = .returned (.int .i64 (c : Int)) ∧ w' = w := by
  go_enter Tryz.func42, Tryz.ntmps42
  go_wp2
  go_loopw [1, 5] (fun kk i wr => i = .int .i64 0 ∧ kk = .int .i64 (c : Int) ∧ wr = w) (fun _ _ _ => 0)
  case atStart => exact ⟨rfl, rfl, rfl⟩
  case round =>
    obtain ⟨rfl, rfl, rfl⟩ := hrel
    go_wp2
    go_ret
    exact ⟨rfl, rfl⟩
theorem rowZ.up {W w : World} {g N : Nat} (h : rowZ w g N) (he : W.heap[g]? = w.heap[g]?) : rowZ W g N :=
  ⟨fun t ht => by obtain ⟨v, hv⟩ := h.cell t ht; exact ⟨v, cell_up hv he⟩, fun t => by have := h.free t; simp only [World.frozen?, he] at this ⊢; exact this⟩
theorem atM.up {W w : World} {g o : Nat} {C : Int} (h : atM w g o C) (he : W.heap[g]? = w.heap[g]?) : atM W g o C := ⟨fun t ht => cell_up (h.row t ht) he, cell_up h.dat he⟩
theorem cell_same {W w : World} {g : Nat} (he : W.heap[g]? = w.heap[g]?) (o : Nat) : W.cell? ⟨g, o, none⟩ = w.cell? ⟨g, o, none⟩ := by simp only [World.cell?, he]
theorem callMF (X : World) (p g n cap c : Nat) (hr : rowZ X g (n * 3)) (hp : p ≠ g) (hcp : n ≤ cap) (hn : n ≤ 1048576) (hc : c ≤ 1000) :
    Calls Tryz.prog 96 #[.slice (some ⟨g, 0, none⟩) n cap, .int .i64 (c : Int)] X fun o w' => o = .returned (.int .i64 ((c + 3 * n : Nat) : Int)) ∧ (∀ o, w'.cell? ⟨p, o, none⟩ = X.cell? ⟨p, o, none⟩) ∧ (∀ j, j < n → at3 w' g (j * 3) (mkF (c + 3 * j))) ∧ (∀ b, b ≠ g → w'.heap[b]? = X.heap[b]?) ∧ w'.heap.size = X.heap.size ∧ Below g X w' := by
  refine (markFilterS_any X g n cap c hr hcp hn hc).mono ?_
  rintro o w' ⟨h, a1, _, a2, a3, a4⟩
  exact ⟨h, cell_same (a2 p hp), a1, a2, a3, a4⟩
theorem callMB (X : World) (p g n cap c : Nat) (hr : rowZ X g (n * 8)) (hd : ∀ j, j < n → X.cell? ⟨g, j * 8 + 7, none⟩ = some (.slice none 0 0)) (hp : p ≠ g) (hcp : n ≤ cap) (hn : n ≤ 1000) (hc : c ≤ 4000000) :
    Calls Tryz.prog 97 #[.slice (some ⟨g, 0, none⟩) n cap, .int .i64 (c : Int)] X fun o w' => o = .returned (.int .i64 ((c + 7 * n : Nat) : Int)) ∧ (∀ o, w'.cell? ⟨p, o, none⟩ = X.cell? ⟨p, o, none⟩) ∧ (∀ j, j < n → atM w' g (j * 8) ((c + 7 * j : Nat) : Int)) ∧ (∀ b, b ≠ g → w'.heap[b]? = X.heap[b]?) ∧ w'.heap.size = X.heap.size ∧ Below g X w' := by
  refine (markBoxS_any X g n cap c hr hd hcp hn hc).mono ?_
  rintro o w' ⟨h, a1, _, a2, a3, a4⟩
  exact ⟨h, cell_same (a2 p hp), a1, a2, a3, a4⟩
set_option maxHeartbeats 4000000 in
set_option maxRecDepth 20000 in
theorem markHost_any (w : World) (c0 c1 c2 c3 lo st : Int) (g1 n1 k1 g2 n2 k2 c : Nat) (h1 : rowZ w g1 (n1 * 3)) (h2 : rowZ w g2 (n2 * 8)) (hd : ∀ j, j < n2 → w.cell? ⟨g2, j * 8 + 7, none⟩ = some (.slice none 0 0)) (hne : g1 ≠ g2) (hl1 : g1 < w.heap.size) (hl2 : g2 < w.heap.size)
    (hc1 : n1 ≤ k1) (hc2 : n2 ≤ k2) (hn1 : n1 ≤ 1000) (hn2 : n2 ≤ 1000) (hc : c ≤ 1000) :
    Calls Tryz.prog 39 #[.agg #[.int .i64 c0, .int .i64 c1, .int .i64 c2, .int .i64 c3, .slice (some ⟨g1, 0, none⟩) n1 k1, .slice (some ⟨g2, 0, none⟩) n2 k2, .slice none 0 0, .slice none 0 0, .int .i64 lo, .int .i64 st], .int .i64 (c : Int)] w fun o w' => o = .returned (.int .i64 ((c + 3 * n1 + 7 * n2 : Nat) : Int)) ∧ (∀ j, j < n1 → at3 w' g1 (j * 3) (mkF (c + 3 * j))) ∧ (∀ j, j < n2 → atM w' g2 (j * 8) ((c + 3 * n1 + 7 * j : Nat) : Int)) ∧ (∀ b, b ≠ g1 → b ≠ g2 → b < w.heap.size → w'.heap[b]? = w.heap[b]?) ∧ Below (min g1 g2) w w' := by
  have HH : Hid (rowZ w g1 (n1 * 3) ∧ rowZ w g2 (n2 * 8) ∧ ∀ j, j < n2 → w.cell? ⟨g2, j * 8 + 7, none⟩ = some (.slice none 0 0)) := ⟨h1, h2, hd⟩
  clear h1 h2 hd
  have HP1 : w.heap.size ≠ g1 := by omega
  have HP2 : w.heap.size ≠ g2 := by omega
  go_enter Tryz.func39, Tryz.ntmps39
  go_wp2_with (first | (go_at_call 96; refine (callMF _ w.heap.size g1 n1 k1 c (HH.out.1.up (((Below.refl w.heap.size w).alloc (Nat.le_refl _) _).block g1 hl1)) HP1 hc1 (by omega) hc).mono ?_; rintro o w1 ⟨rfl, cp1, a1, b1, s1, l1⟩; have HW1 : Hid (Below (min g1 g2) w w1) := (((Below.refl w.heap.size w).alloc (Nat.le_refl _) _).mono (by omega)).trans (l1.mono (by omega)); clear l1; have HA1 : Hid _ := a1; have HB1 : Hid (∀ b, b ≠ g1 → b < w.heap.size → w1.heap[b]? = w.heap[b]?) := (fun b hb hl => (b1 b hb).trans (((Below.refl w.heap.size w).alloc (Nat.le_refl _) _).block b hl)); clear a1 b1 s1) | (go_at_call 97; refine (callMB w1 w.heap.size g2 n2 k2 (c + 3 * n1) (HH.out.2.1.up (HB1.out g2 (Ne.symm hne) hl2)) (fun j hj => cell_up (HH.out.2.2 j hj) (HB1.out g2 (Ne.symm hne) hl2)) HP2 hc2 hn2 (by omega)).mono ?_; rintro o w2 ⟨rfl, cp2, a2, b2, s2, l2⟩; have HW2 : Hid (Below (min g1 g2) w w2) := HW1.out.trans (l2.mono (by omega)); clear l2; have HA2 : Hid _ := a2; have HB2 : Hid (∀ b, b ≠ g2 → w2.heap[b]? = w1.heap[b]?) := b2; clear a2 b2 s2) | (go_at_call 98; refine (none50 w2 _).mono ?_; rintro o w3 ⟨rfl, rfl⟩) | (go_at_call 40; refine (none51 _ _).mono ?_; rintro o w4 ⟨rfl, rfl⟩))
  go_ret
  refine ⟨rfl, fun j hj => (HA1.out j hj).up (HB2.out g1 hne), HA2.out, fun b e1 e2 hl => (HB2.out b e2).trans (HB1.out b e1 hl), HW2.out⟩
end Go.Proofs.YtaamahohdnbpiaaGreat
namespace Go.Proofs.YtaamahohdnbpiaaGreat
open Go.RowKit
theorem callHF (X : World) (p g n cap c : Nat) (hr : ∀ j, j < n → at3 X g (j * 3) (mkF (c + 3 * j))) (hp : p < X.heap.size) (hcp : n ≤ cap) (hn : n ≤ 1048576) (hc : c ≤ 1000) :
    Calls Tryz.prog 100 #[.slice (some ⟨g, 0, none⟩) n cap, .int .i64 (c : Int)] X fun o w' => o = .returned (.int .i64 ((c + 3 * n : Nat) : Int)) ∧ (∀ o, w'.cell? ⟨p, o, none⟩ = X.cell? ⟨p, o, none⟩) ∧ Below X.heap.size X w' := by
  refine (heldFilterS_any X g n cap c hr hcp hn hc).mono ?_
  rintro o w' ⟨h, hb⟩
  exact ⟨h, cell_same (hb.block p hp), hb⟩
set_option maxHeartbeats 4000000 in
set_option maxRecDepth 20000 in
theorem heldHost_any (w : World) (c0 c1 c2 c3 lo st : Int) (g1 n1 k1 g2 n2 k2 c : Nat) (h1 : ∀ j, j < n1 → at3 w g1 (j * 3) (mkF (c + 3 * j))) (h2 : ∀ j, j < n2 → atM w g2 (j * 8) ((c + 3 * n1 + 7 * j : Nat) : Int)) (hl1 : g1 < w.heap.size) (hl2 : g2 < w.heap.size)
    (hc1 : n1 ≤ k1) (hc2 : n2 ≤ k2) (hn1 : n1 ≤ 1000) (hn2 : n2 ≤ 1000) (hc : c ≤ 1000) :
    Calls Tryz.prog 41 #[.agg #[.int .i64 c0, .int .i64 c1, .int .i64 c2, .int .i64 c3, .slice (some ⟨g1, 0, none⟩) n1 k1, .slice (some ⟨g2, 0, none⟩) n2 k2, .slice none 0 0, .slice none 0 0, .int .i64 lo, .int .i64 st], .int .i64 (c : Int)] w fun o w' => o = .returned (.int .i64 ((c + 3 * n1 + 7 * n2 : Nat) : Int)) ∧ Below w.heap.size w w' := by
  have HH : Hid ((∀ j, j < n1 → at3 w g1 (j * 3) (mkF (c + 3 * j))) ∧ (∀ j, j < n2 → atM w g2 (j * 8) ((c + 3 * n1 + 7 * j : Nat) : Int))) := ⟨h1, h2⟩
  clear h1 h2
  have z1 : ¬ ((c + 3 * n1 : Nat) : Int) < 0 := by omega
  have z2 : ¬ ((c + 3 * n1 + 7 * n2 : Nat) : Int) < 0 := by omega
  generalize hD1 : c + 3 * n1 = D1 at *
  generalize hD2 : D1 + 7 * n2 = D2 at *
  have E1 : Hid (c + 3 * n1 = D1) := hD1
  have E2 : Hid (D1 + 7 * n2 = D2) := hD2
  clear hD1 hD2
  have hq1 : D1 ≤ 4000000 := by have := E1.out; omega
  have hq2 : D2 ≤ 8000000 := by have := E2.out; omega
  go_enter Tryz.func41, Tryz.ntmps41
  go_wp2_with (first | (go_at_call 100; refine (callHF _ w.heap.size g1 n1 k1 c (fun j hj => (HH.out.1 j hj).up (((Below.refl w.heap.size w).alloc (Nat.le_refl _) _).block g1 hl1)) (by simp) hc1 (by omega) hc).mono ?_; rw [E1.out]; rintro o w1 ⟨rfl, cp1, b1⟩; have HB1 : Hid (Below w.heap.size w w1) := ((Below.refl w.heap.size w).alloc (Nat.le_refl _) _).trans (b1.mono (by simp)); clear b1) | (go_at_call 101; refine (heldBoxS_any w1 g2 n2 k2 D1 (fun j hj => (HH.out.2 j hj).up (HB1.out.block g2 hl2)) hc2 hn2 hq1).mono ?_; rw [E2.out]; rintro o w2 ⟨rfl, rfl⟩) | (go_at_call 102; refine (none54 _ D2).mono ?_; rintro o w3 ⟨rfl, rfl⟩) | (go_at_call 42; refine (none55 _ D2).mono ?_; rintro o w4 ⟨rfl, rfl⟩))
  go_ret
  exact ⟨rfl, HB1.out⟩
end Go.Proofs.YtaamahohdnbpiaaGreat
namespace Go.Proofs.YtaamahohdnbpiaaGreat
open Go.RowKit
theorem none18 (w : World) (c : Nat) : Calls Tryz.prog 96 #[.slice none 0 0, .int .i64 (c : Int)] w fun o w' => o = .returned (.int .i64 (c : Int)) ∧ w' = w := by
  go_enter Tryz.func96, Tryz.ntmps96
  go_wp2
  go_loopw [1, 5] (fun kk i wr => i = .int .i64 0 ∧ kk = .int .i64 (c : Int) ∧ wr = w) (fun _ _ _ => 0)
  case atStart => exact ⟨rfl, rfl, rfl⟩
  case round =>
    obtain ⟨rfl, rfl, rfl⟩ := hrel
    go_wp2
    go_ret
    exact ⟨rfl, rfl⟩
theorem none49 (w : World) (c : Nat) : Calls Tryz.prog 97 #[.slice none 0 0, .int .i64 (c : Int)] w fun o w' => o = .returned (.int .i64 (c : Int)) ∧ w' = w := by
  go_enter Tryz.func97, Tryz.ntmps97
  go_wp2
  go_loopw [1, 5] (fun kk i wr => i = .int .i64 0 ∧ kk = .int .i64 (c : Int) ∧ wr = w) (fun _ _ _ => 0)
  case atStart => exact ⟨rfl, rfl, rfl⟩
  case round =>
    obtain ⟨rfl, rfl, rfl⟩ := hrel
    go_wp2
    go_ret
    exact ⟨rfl, rfl⟩
theorem none52 (w : World) (c : Nat) : Calls Tryz.prog 100 #[.slice none 0 0, .int .i64 (c : Int)] w fun o w' => o = .returned (.int .i64 (c : Int)) ∧ w' = w := by
  go_enter Tryz.func100, Tryz.ntmps100
  go_wp2
  go_loopw [1, 5] (fun kk i wr => i = .int .i64 0 ∧ kk = .int .i64 (c : Int) ∧ wr = w) (fun _ _ _ => 0)
  case atStart => exact ⟨rfl, rfl, rfl⟩
  case round =>
    obtain ⟨rfl, rfl, rfl⟩ := hrel
    go_wp2
    go_ret
    exact ⟨rfl, rfl⟩
theorem none53 (w : World) (c : Nat) : Calls Tryz.prog 101 #[.slice none 0 0, .int .i64 (c : Int)] w fun o w' => o = .returned (.int .i64 (c : Int)) ∧ w' = w := by
  go_enter Tryz.func101, Tryz.ntmps101
  go_wp2
  go_loopw [1, 5] (fun kk i wr => i = .int .i64 0 ∧ kk = .int .i64 (c : Int) ∧ wr = w) (fun _ _ _ => 0)
  case atStart => exact ⟨rfl, rfl, rfl⟩
  case round =>
    obtain ⟨rfl, rfl, rfl⟩ := hrel
    go_wp2
    go_ret
    exact ⟨rfl, rfl⟩
set_option maxHeartbeats 4000000 in
set_option maxRecDepth 20000 in
theorem markHost_nil (w : World) (c0 c1 c2 c3 lo st : Int) (c : Nat) (hc : c ≤ 1000) :
    Calls Tryz.prog 39 #[.agg #[.int .i64 c0, .int .i64 c1, .int .i64 c2, .int .i64 c3, .slice none 0 0, .slice none 0 0, .slice none 0 0, .slice none 0 0, .int .i64 lo, .int .i64 st], .int .i64 (c : Int)] w fun o w' => o = .returned (.int .i64 (c : Int)) ∧ Below w.heap.size w w' := by
  have z1 : ¬ (c : Int) < 0 := by omega
  go_enter Tryz.func39, Tryz.ntmps39
  go_wp2_with (first | (go_at_call 96; refine (none18 _ c).mono ?_; rintro o w1 ⟨rfl, rfl⟩) | (go_at_call 97; refine (none49 _ c).mono ?_; rintro o w2 ⟨rfl, rfl⟩) | (go_at_call 98; refine (none50 _ c).mono ?_; rintro o w3 ⟨rfl, rfl⟩) | (go_at_call 40; refine (none51 _ c).mono ?_; rintro o w4 ⟨rfl, rfl⟩))
  go_ret
  exact ⟨rfl, (Below.refl w.heap.size w).alloc (Nat.le_refl _) _⟩
set_option maxHeartbeats 4000000 in
set_option maxRecDepth 20000 in
theorem heldHost_nil (w : World) (c0 c1 c2 c3 lo st : Int) (c : Nat) (hc : c ≤ 1000) :
    Calls Tryz.prog 41 #[.agg #[.int .i64 c0, .int .i64 c1, .int .i64 c2, .int .i64 c3, .slice none 0 0, .slice none 0 0, .slice none 0 0, .slice none 0 0, .int .i64 lo, .int .i64 st], .int .i64 (c : Int)] w fun o w' => o = .returned (.int .i64 (c : Int)) ∧ Below w.heap.size w w' := by
  have z1 : ¬ (c : Int) < 0 := by omega
  go_enter Tryz.func41, Tryz.ntmps41
  go_wp2_with (first | (go_at_call 100; refine (none52 _ c).mono ?_; rintro o w1 ⟨rfl, rfl⟩) | (go_at_call 101; refine (none53 _ c).mono ?_; rintro o w2 ⟨rfl, rfl⟩) | (go_at_call 102; refine (none54 _ c).mono ?_; rintro o w3 ⟨rfl, rfl⟩) | (go_at_call 42; refine (none55 _ c).mono ?_; rintro o w4 ⟨rfl, rfl⟩))
  go_ret
  exact ⟨rfl, (Below.refl w.heap.size w).alloc (Nat.le_refl _) _⟩
end Go.Proofs.YtaamahohdnbpiaaGreat
namespace Go.Proofs.YtaamahohdnbpiaaGreat
open Go.RowKit
theorem make_Zc {ops : Array Oper} {rest : List Oper} {o : Oper} {a : Act} {Q : Exit → Act → World → Prop} (w : World) (T E : TypeId) (Z : Value) (sz by_ : Nat) (hi0 : (Tryz.prog.info? E).map (fun i => (i.zero, i.size, i.bytes)) = some (some Z, sz, by_)) (hu : Tryz.prog.underlying T = some (.slice E)) (hby : by_ ≤ 1000)
    (hg : o.guard = none) (l c : Operand) (hop : o.op = Op.makeSlice T l c) (C : Int) (n : Nat) (hl : a.eval l = .int .i64 C) (hc : a.eval c = .int .i64 C) (hC : C = (n : Int)) (hn : n ≤ 100000000)
    (hK : ∀ w', rowZ w' w.heap.size (n * sz) → (∀ t, t < n * sz → w'.cell? ⟨w.heap.size, t, none⟩ = some Z.cells[t % Z.cells.size]!) → w.grownBy w' none → w.heap.size < w'.heap.size → wpList Tryz.prog ops Q rest (a.put o.dst (.slice (some ⟨w.heap.size, 0, none⟩) n n)) w') :
    wpList Tryz.prog ops Q (o :: rest) a w := by
  obtain ⟨i0, hi, hz0, hz1, hz2⟩ := info_parts hi0
  have hmul : by_ * n ≤ 1000 * n := Nat.mul_le_mul_right _ hby
  refine wpList_make_full w hg l c T hop w.heap.size E i0 Z sz hu hi hz0 hz1 .i64 .i64 C C n hl hc hC hC (by rw [hz2]; omega) (by unfold maxLen; omega) (Nat.le_refl _) ?_
  intro w' ho hgr
  have hcell : ∀ t, t < n * sz → w'.cell? ⟨w.heap.size, t, none⟩ = some Z.cells[t % Z.cells.size]! := by
    intro t ht
    rw [World.ownsRow.cellAt ho t (by omega), Array.getElem?_toList]
    simp [madeCells, ht]
  exact hK w' ⟨fun t ht => ⟨_, hcell t ht⟩, fun t => World.ownsRow.frozenAt ho t⟩ hcell hgr (World.ownsRow.lt ho _ rfl).2
/-- the empty box -/
def bx0 : R8 := ⟨0, 0, 0, false, 0, false, 0, []⟩
abbrev bxZ : Value := .agg #[.int .i64 0, .int .i64 0, .int .i64 0, .bool false, .int .u32 0, .bool false, .int .i64 0, .slice none 0 0]
theorem zero_boxes {w : World} {g n : Nat} (h : ∀ t, t < n * 8 → w.cell? ⟨g, t, none⟩ = some bxZ.cells[t % bxZ.cells.size]!) (j : Nat) (hj : j < n) : at8 w g (j * 8) bx0 none 0 0 := by
  have e : ∀ r, r < 8 → w.cell? ⟨g, j * 8 + r, none⟩ = some bxZ.cells[r]! := fun r hr => by
    have := h (j * 8 + r) (by omega)
    rw [show bxZ.cells.size = 8 from rfl, show (j * 8 + r) % 8 = r by omega] at this
    exact this
  exact ⟨e 0 (by omega), e 1 (by omega), e 2 (by omega), e 3 (by omega), e 4 (by omega), e 5 (by omega), e 6 (by omega), e 7 (by omega), ⟨rfl, Nat.le_refl _, fun _ hx => (by cases hx), fun hne => absurd rfl hne⟩⟩
set_option maxHeartbeats 4000000 in
set_option maxRecDepth 20000 in
theorem newHost_bad1 (w : World) (a b c d : Int) (v : Value) (h : okCf a b c d = false) :
    Calls Tryz.prog 14 #[cfV a b c d, v] w fun o w' => o = .returned (.tuple #[hoV ⟨0, 0, 0, 0, [], [], [], [], 0, 0⟩ ⟨none, 0, 0, none, 0, 0, none, 0, 0, none, 0, 0⟩, .int .i64 1]) ∧ Below w.heap.size w w' := by
  have HE : Hid (∀ W, Calls Tryz.prog 53 #[cfV a b c d] W fun o w' => o = .returned (.bool false) ∧ Below W.heap.size W w') := fun W => by have := validConfig_any W a b c d; rw [h] at this; exact this
  clear h
  go_enter Tryz.func14, Tryz.ntmps14
  go_wp2_with (first | (go_at_call 53; refine (HE.out _).mono ?_; rintro o w1 ⟨rfl, hb1⟩; have cp1 := fun o => hb1.cell (p := ⟨w.heap.size + 1, o, none⟩) (by simp; try omega); have fr1 := fun o => hb1.frozen (p := ⟨w.heap.size + 1, o, none⟩) (by simp; try omega); have cq1 := fun o => hb1.cell (p := ⟨w.heap.size, o, none⟩) (by simp; try omega); have HB1 : Hid _ := hb1; clear hb1))
  refine bodyPost_ret (v := .tuple #[hoV ⟨0, 0, 0, 0, [], [], [], [], 0, 0⟩ ⟨none, 0, 0, none, 0, 0, none, 0, 0, none, 0, 0⟩, .int .i64 1]) (by simp [results, Tryz.results14, go_sem, cp1]) rfl ?_
  refine ⟨rfl, ?_⟩
  (repeat refine Below.setCell ?_ (by simp; try omega) _)
  exact (((Below.refl _ _).alloc (Nat.le_refl _) _).alloc (by simp) _).trans (HB1.out.mono (by simp; try omega))
end Go.Proofs.YtaamahohdnbpiaaGreat
namespace Go.Proofs.YtaamahohdnbpiaaGreat
open Go.RowKit
/-- what a call leaves of the two blocks that stand at b -/
theorem keepN {b : Nat} {X w' : World} (hb : Below X.heap.size X w') (hz : b + 2 ≤ X.heap.size) : (∀ o, w'.cell? ⟨b, o, none⟩ = X.cell? ⟨b, o, none⟩) ∧ (∀ o, w'.cell? ⟨b + 1, o, none⟩ = X.cell? ⟨b + 1, o, none⟩) ∧ (∀ o, w'.frozen? ⟨b + 1, o, none⟩ = X.frozen? ⟨b + 1, o, none⟩) :=
  ⟨fun o => hb.cell (p := ⟨b, o, none⟩) (by show b < _; omega), fun o => hb.cell (p := ⟨b + 1, o, none⟩) (by show b + 1 < _; omega), fun o => hb.frozen (p := ⟨b + 1, o, none⟩) (by show b + 1 < _; omega)⟩
set_option maxHeartbeats 4000000 in
set_option maxRecDepth 20000 in
theorem newHost_bad2 (w : World) (a b c d : Int) (g n cap : Nat) (bs : List R3) (h : okCf a b c d = true) (hf : isR3s w (some ⟨g, 0, none⟩) n cap bs) (hn : n ≤ 1048576) (h2 : okFs bs = false) :
    Calls Tryz.prog 14 #[cfV a b c d, .slice (some ⟨g, 0, none⟩) n cap] w fun o w' => o = .returned (.tuple #[hoV ⟨0, 0, 0, 0, [], [], [], [], 0, 0⟩ ⟨none, 0, 0, none, 0, 0, none, 0, 0, none, 0, 0⟩, .int .i64 2]) ∧ Below w.heap.size w w' := by
  have HE : Hid (∀ W, Calls Tryz.prog 53 #[cfV a b c d] W fun o w' => o = .returned (.bool true) ∧ Below W.heap.size W w') := fun W => by have := validConfig_any W a b c d; rw [h] at this; exact this
  have HF : Hid (∀ W, Below w.heap.size w W → Calls Tryz.prog 54 #[.slice (some ⟨g, 0, none⟩) n cap] W fun o w' => o = .returned (.bool false) ∧ Below W.heap.size W w') := fun W hW => by have := validFilters_any W _ n cap bs (hf.below hW) hn; rw [h2] at this; exact this
  clear h hf h2
  go_enter Tryz.func14, Tryz.ntmps14
  go_wp2_with (first | (go_at_call 53; refine (HE.out _).mono ?_; rintro o w1 ⟨rfl, hb1⟩; obtain ⟨cq1, cp1, fr1⟩ := keepN (b := w.heap.size) hb1 (by simp); have HB1 : Hid (Below w.heap.size w w1) := (((Below.refl _ _).alloc (Nat.le_refl _) _).alloc (by simp) _).trans (hb1.mono (by simp; try omega)); have HZ1 : Hid (w.heap.size + 2 ≤ w1.heap.size) := (by have := hb1.size; simp at this; exact this); clear hb1) | (go_at_call 54; refine (HF.out _ HB1.out).mono ?_; rintro o w2 ⟨rfl, hb2⟩; obtain ⟨cq2, cp2, fr2⟩ := keepN (b := w.heap.size) hb2 HZ1.out; have HB2 : Hid (Below w.heap.size w w2) := HB1.out.trans (hb2.mono HB1.out.size); clear hb2))
  refine bodyPost_ret (v := .tuple #[hoV ⟨0, 0, 0, 0, [], [], [], [], 0, 0⟩ ⟨none, 0, 0, none, 0, 0, none, 0, 0, none, 0, 0⟩, .int .i64 2]) (by simp [results, Tryz.results14, go_sem, cp2, cp1]) rfl ?_
  refine ⟨rfl, ?_⟩
  (repeat refine Below.setCell ?_ (by simp; try omega) _)
  exact HB2.out
/-- the clone of the filters, as impl.NewHost calls it -/
theorem cloneN {w : World} {g n cap : Nat} {bs : List R3} (hf : isR3s w (some ⟨g, 0, none⟩) n cap bs) (hn : n ≤ 1048576) (W : World) (hW : Below w.heap.size w W) : Calls Tryz.prog 55 #[.slice (some ⟨g, 0, none⟩) n cap] W fun e w' => ∃ g1 k1, e = .returned (.slice (some ⟨g1, 0, none⟩) n k1) ∧ (W.heap.size ≤ g1 ∧ g1 < w'.heap.size ∧ n ≤ k1 ∧ rowZ w' g1 (n * 3) ∧ St W.heap.size w' (fun V => isR3s V (some ⟨g1, 0, none⟩) n k1 bs)) ∧ Below W.heap.size W w' := by
  refine (clone_any W g n cap bs (hf.below hW) hn).mono ?_
  rintro o w' ⟨v, rfl, ho, hv, hb⟩
  obtain ⟨g1, k1, rfl, q1, q2, q3, q4, q5⟩ := c3_owns hf.len ho hv
  exact ⟨g1, k1, rfl, ⟨q1, q2, q3, q4, q5⟩, hb⟩
end Go.Proofs.YtaamahohdnbpiaaGreat
namespace Go.Proofs.YtaamahohdnbpiaaGreat
open Go.RowKit
set_option maxHeartbeats 1000000 in
theorem toFilterS_row (w : World) (a : Option Addr) (n cap : Nat) (bs : List R3) (h : isR3s w a n cap bs) (hn : n ≤ 1048576) :
    Calls Tryz.prog 87 #[.slice a n cap] w fun e w' => ∃ g, e = .returned (.slice (some ⟨g, 0, none⟩) n n) ∧ (w.heap.size ≤ g ∧ g < w'.heap.size ∧ rowZ w' g (n * 3)) ∧ St w.heap.size w' (fun W => isR3s W (some ⟨g, 0, none⟩) n n bs) ∧ Below w.heap.size w w' := by
  have hlen := h.len
  have hcp := h.cap
  by_cases hl : bs = []
  · subst hl
    have hn0 : n = 0 := hlen
    subst hn0
    clear hlen h
    go_enter Tryz.func87, Tryz.ntmps87
    go_wp2_with (first | (at_make; refine make_Z _ 30 85 _ 3 12 Tryz.info85 Tryz.underlying30 (by decide) rfl (.tmp 6) (.tmp 6) rfl _ 0 rfl rfl rfl (by omega) ?_; intro w1 hrow hg1 hz1))
    go_loopw [4] (fun i wr => i = .int .i64 0 ∧ Below w.heap.size w wr ∧ w.heap.size < wr.heap.size ∧ rowZ wr w.heap.size (0 * 3)) (fun _ _ => 0)
    case atStart => exact ⟨rfl, (Below.refl _ _).grown hg1 (Nat.le_refl _) (by intro k e; cases e), hz1, hrow⟩
    case round =>
      clear hrow
      obtain ⟨rfl, hb, hz, hrow⟩ := hrel
      go_wp2
      go_ret
      exact ⟨_, rfl, ⟨Nat.le_refl _, hz, hrow⟩, fun _ _ => ⟨rfl, Nat.le_refl _, fun e => absurd rfl e⟩, hb⟩
  · obtain ⟨g, off, rfl, hc⟩ := h.cells hl
    have HL : Hid (n = bs.length) := hlen
    have HC : Hid (∀ j (h : j < bs.length), at3 w g (off + j * 3) bs[j]) := hc
    have hgz : g < w.heap.size := World.block_lt_of_cell? w _ (hc 0 (List.length_pos_iff.2 hl)).c0
    clear h hlen hc
    go_enter Tryz.func87, Tryz.ntmps87
    go_wp2_with (first | (at_make; refine make_Z _ 30 85 _ 3 12 Tryz.info85 Tryz.underlying30 (by decide) rfl (.tmp 6) (.tmp 6) rfl _ n rfl rfl rfl (by omega) ?_; intro w1 hrow hg1 hz1))
    go_loopw [4] (fun i wr => ∃ k : Nat, k ≤ n ∧ i = .int .i64 k ∧ rowZ wr w.heap.size (n * 3) ∧ (∀ j (hj : j < k) (h : j < bs.length), at3 wr w.heap.size (j * 3) bs[j]) ∧ Below w.heap.size w wr ∧ w.heap.size < wr.heap.size) (fun i _ => n - (intOf i).toNat)
    case atStart => exact ⟨0, Nat.zero_le _, rfl, hrow, fun j hj => absurd hj (Nat.not_lt_zero _), (Below.refl _ _).grown hg1 (Nat.le_refl _) (by intro k e; cases e), hz1⟩
    case round =>
      clear hrow hz1 hg1
      obtain ⟨k, hk, rfl, hrow, hdone, hb, hz⟩ := hrel
      by_cases hlt : k < n
      · have hkl : k < bs.length := by have := HL.out; omega
        have hx := HC.out k hkl
        have x0 := (hb.cell (by exact hgz)).trans hx.c0
        have x1 := (hb.cell (by exact hgz)).trans hx.c1
        have x2 := (hb.cell (by exact hgz)).trans hx.c2
        have HD : Hid (∀ W, Below wr.heap.size wr W → rowZ W w.heap.size (n * 3) ∧ (∀ j (hj : j < k) (h : j < bs.length), at3 W w.heap.size (j * 3) bs[j]) ∧ Below w.heap.size w W ∧ w.heap.size < W.heap.size) := fun W hW => ⟨hrow.below hW hz, fun j hj hjl => (hdone j hj hjl).below hW, hb.trans (hW.mono (by omega)), Nat.lt_of_lt_of_le hz hW.size⟩
        clear hrow hdone hb hx
        have hkn : k * 3 + 3 ≤ n * 3 := by omega
        have HB : Hid (∀ W, rowZ W w.heap.size (n * 3) → at3 (setRow W w.heap.size (k * 3) [.bool bs[k].e, .int .u32 bs[k].m, .int .u32 bs[k].k]) w.heap.size (k * 3) bs[k]) := fun W hW => at3.new hW (k * 3) hkn bs[k]
        generalize hB0 : bs[k].e = e0 at *
        generalize hB1 : bs[k].m = m0 at *
        generalize hB2 : bs[k].k = k0 at *
        clear hB0 hB1 hB2
        go_wp2_with (first | (go_at_call 146; refine (toFilter_any _ _ _ _).mono ?_; rintro o w5 ⟨rfl, hb5⟩; obtain ⟨v0, z0⟩ := (HD.out w5 hb5).1.cell (k * 3) (by omega); obtain ⟨v1, z1⟩ := (HD.out w5 hb5).1.cell (k * 3 + 1) (by omega); obtain ⟨v2, z2⟩ := (HD.out w5 hb5).1.cell (k * 3 + 2) (by omega); have f0 := (HD.out w5 hb5).1.free (k * 3); have f1 := (HD.out w5 hb5).1.free (k * 3 + 1); have f2 := (HD.out w5 hb5).1.free (k * 3 + 2)))
        go_roundw
        case rel =>
          obtain ⟨r1, r2, r3, r4⟩ := HD.out w5 hb5
          refine ⟨k + 1, by omega, by go_num, r1.put [.bool e0, .int .u32 m0, .int .u32 k0] (k * 3) hkn, fun j hj hjl => ?_, setRow_below _ _ (Nat.le_refl _) w [.bool e0, .int .u32 m0, .int .u32 k0] w5 (k * 3) r3, ?_⟩
          · by_cases e : j = k
            · subst e
              exact HB.out w5 r1
            · exact (r2 j (by omega) hjl).keep [.bool e0, .int .u32 m0, .int .u32 k0] (k * 3) (by simp; omega)
          · simpa using r4
        case measure => simp [intOf]; omega
      · go_wp2
        go_ret
        refine ⟨_, rfl, ⟨Nat.le_refl _, hz, hrow⟩, fun W hW => ⟨HL.out, Nat.le_refl _, fun _ => ⟨_, 0, rfl, fun j hj => ?_⟩⟩, hb⟩
        have := hdone j (by have := HL.out; omega) hj
        rw [Nat.zero_add]
        exact this.up (hW _ (Nat.le_refl _) hz)
end Go.Proofs.YtaamahohdnbpiaaGreat
