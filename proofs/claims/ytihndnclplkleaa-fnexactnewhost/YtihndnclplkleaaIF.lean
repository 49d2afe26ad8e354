import Derived.Test.YtihndnclplkleaaIE
namespace Go.Proofs.Ytihndnclplkleaa
open Go.RowKit
/-- no bytes: nothing to mark -/
theorem markByte_nil (w : World) (c : Nat) : Calls Try.prog 73 #[.slice none 0 0, .int .i64 (c : Int)] w fun o w' => o = .returned (.int .i64 (c : Int)) ∧ w' = w := by
  go_enter Try.func73, Try.ntmps73
  go_wp2
  go_loopw [1, 5] (fun kk i wr => i = .int .i64 0 ∧ kk = .int .i64 (c : Int) ∧ wr = w) (fun _ _ _ => 0)
  case atStart => exact ⟨rfl, rfl, rfl⟩
  case round =>
    obtain ⟨rfl, rfl, rfl⟩ := hrel
    go_wp2
    go_ret
    exact ⟨rfl, rfl⟩
theorem heldByte_nil (w : World) (c : Nat) : Calls Try.prog 74 #[.slice none 0 0, .int .i64 (c : Int)] w fun o w' => o = .returned (.int .i64 (c : Int)) ∧ w' = w := by
  go_enter Try.func74, Try.ntmps74
  go_wp2
  go_loopw [1, 5] (fun kk i wr => i = .int .i64 0 ∧ kk = .int .i64 (c : Int) ∧ wr = w) (fun _ _ _ => 0)
  case atStart => exact ⟨rfl, rfl, rfl⟩
  case round =>
    obtain ⟨rfl, rfl, rfl⟩ := hrel
    go_wp2
    go_ret
    exact ⟨rfl, rfl⟩
/-- the cells of a box without data that the marks from C on make -/
def m8 (C : Int) : List Value := [.int .i64 C, .int .i64 (C + 1), .int .i64 (C + 1 + 1), .bool (C % 3 == 0), .int .u32 (C + 1 + 1 + 1 + 1), .bool ((C + 5) % 3 == 0), .int .i64 (C + 1 + 1 + 1 + 1 + 1 + 1)]
structure atM (w : World) (g o : Nat) (C : Int) : Prop where
  row : ∀ t (h : t < 7), w.cell? ⟨g, o + t, none⟩ = some ((m8 C)[t]'(by simpa [m8] using h))
  dat : w.cell? ⟨g, o + 7, none⟩ = some (.slice none 0 0)
theorem atM.new {w : World} {g M : Nat} (h : rowZ w g M) (p : Nat) (hp : p + 8 ≤ M) (C : Int) (hd : w.cell? ⟨g, p + 7, none⟩ = some (.slice none 0 0)) : atM (setRow w g p (m8 C)) g p C :=
  ⟨fun t ht => setRow_at g (m8 C) w p t (by simpa [m8] using ht) (h.cell (p + t) (by omega)), (setRow_other g (m8 C) w p (p + 7) (by simp [m8])).trans hd⟩
theorem atM.keep {w : World} {g o : Nat} {C : Int} (h : atM w g o C) (vs : List Value) (p : Nat) (hp : o + 8 ≤ p ∨ p + vs.length ≤ o) : atM (setRow w g p vs) g o C :=
  ⟨fun t ht => (setRow_other g vs w p (o + t) (by omega)).trans (h.row t ht), (setRow_other g vs w p (o + 7) (by omega)).trans h.dat⟩
set_option maxHeartbeats 4000000 in
theorem markBoxS_any (w : World) (g n cap c : Nat) (hr : rowZ w g (n * 8)) (hd : ∀ j, j < n → w.cell? ⟨g, j * 8 + 7, none⟩ = some (.slice none 0 0)) (hcp : n ≤ cap) (hn : n ≤ 1000) (hc : c ≤ 4000000) :
    Calls Try.prog 49 #[.slice (some ⟨g, 0, none⟩) n cap, .int .i64 (c : Int)] w fun o w' => o = .returned (.int .i64 ((c + 7 * n : Nat) : Int)) ∧ (∀ j, j < n → atM w' g (j * 8) ((c + 7 * j : Nat) : Int)) ∧ rowZ w' g (n * 8) ∧ (∀ b, b ≠ g → w'.heap[b]? = w.heap[b]?) ∧ w'.heap.size = w.heap.size ∧ Below g w w' := by
  have HR : Hid (rowZ w g (n * 8) ∧ ∀ j, j < n → w.cell? ⟨g, j * 8 + 7, none⟩ = some (.slice none 0 0)) := ⟨hr, hd⟩
  clear hr hd
  go_enter Try.func49, Try.ntmps49
  go_wp2
  go_loopw [1, 5] (fun kk i wr => ∃ k : Nat, k ≤ n ∧ i = .int .i64 (k : Int) ∧ kk = .int .i64 ((c + 7 * k : Nat) : Int) ∧ (∀ j, j < k → atM wr g (j * 8) ((c + 7 * j : Nat) : Int)) ∧ (∀ j, j < n → wr.cell? ⟨g, j * 8 + 7, none⟩ = some (.slice none 0 0)) ∧ rowZ wr g (n * 8) ∧ (∀ b, b ≠ g → wr.heap[b]? = w.heap[b]?) ∧ wr.heap.size = w.heap.size ∧ Below g w wr) (fun _ i _ => n - (intOf i).toNat)
  case atStart => exact ⟨0, Nat.zero_le _, rfl, by go_num, fun j hj => absurd hj (Nat.not_lt_zero _), HR.out.2, HR.out.1, fun _ _ => rfl, rfl, Below.refl _ _⟩
  case round =>
    obtain ⟨k, hk, rfl, rfl, hdone, hdat, hrow, hoth, hsz, hb⟩ := hrel
    by_cases hlt : k < n
    · obtain ⟨v0, z0⟩ := hrow.cell (k * 8) (by omega)
      obtain ⟨v1, z1⟩ := hrow.cell (k * 8 + 1) (by omega)
      obtain ⟨v2, z2⟩ := hrow.cell (k * 8 + 2) (by omega)
      obtain ⟨v3, z3⟩ := hrow.cell (k * 8 + 3) (by omega)
      obtain ⟨v4, z4⟩ := hrow.cell (k * 8 + 4) (by omega)
      obtain ⟨v5, z5⟩ := hrow.cell (k * 8 + 5) (by omega)
      obtain ⟨v6, z6⟩ := hrow.cell (k * 8 + 6) (by omega)
      have z7 := hdat k hlt
      have f0 := hrow.free (k * 8)
      have f1 := hrow.free (k * 8 + 1)
      have f2 := hrow.free (k * 8 + 2)
      have f3 := hrow.free (k * 8 + 3)
      have f4 := hrow.free (k * 8 + 4)
      have f5 := hrow.free (k * 8 + 5)
      have f6 := hrow.free (k * 8 + 6)
      have HD : Hid ((∀ j, j < k → atM wr g (j * 8) ((c + 7 * j : Nat) : Int)) ∧ (∀ j, j < n → wr.cell? ⟨g, j * 8 + 7, none⟩ = some (.slice none 0 0)) ∧ rowZ wr g (n * 8) ∧ (∀ b, b ≠ g → wr.heap[b]? = w.heap[b]?) ∧ wr.heap.size = w.heap.size ∧ Below g w wr) := ⟨hdone, hdat, hrow, hoth, hsz, hb⟩
      clear hdone hdat hrow hoth hsz hb
      generalize hC : c + 7 * k = C at *
      have HC : Hid (c + 7 * k = C) := hC
      have hC1 : C ≤ 5000000 := by omega
      clear hC
      have e3 : ((C : Int) + 1 + 1 + 1).tmod 3 = (((C + 3) % 3 : Nat) : Int) := by rw [Int.tmod_eq_emod_of_nonneg (by omega)]; omega
      have e5 : ((C : Int) + 1 + 1 + 1 + 1 + 1).tmod 3 = (((C + 5) % 3 : Nat) : Int) := by rw [Int.tmod_eq_emod_of_nonneg (by omega)]; omega
      have HB : Hid (∀ W, Calls Try.prog 73 #[.slice none 0 0, .int .i64 ((C : Int) + 1 + 1 + 1 + 1 + 1 + 1 + 1)] W fun o w' => o = .returned (.int .i64 ((C : Int) + 1 + 1 + 1 + 1 + 1 + 1 + 1)) ∧ w' = W) := fun W => by
        have := markByte_nil W (C + 7)
        have e : (((C + 7 : Nat)) : Int) = (C : Int) + 1 + 1 + 1 + 1 + 1 + 1 + 1 := by omega
        rw [e] at this
        exact this
      go_wp2_with (first | (go_at_call 73; refine (HB.out _).mono ?_; rintro o w5 ⟨rfl, rfl⟩))
      obtain ⟨r1, r0, r2, r3, r4, r5⟩ := HD.out
      have hC := HC.out
      have hl7 : (m8 (C : Int)).length = 7 := rfl
      refine ⟨⟨k + 1, by omega, by go_num, by rw [show c + 7 * (k + 1) = C + 7 by omega]; go_num, fun j hj => (?_ : atM (setRow wr g (k * 8) (m8 (C : Int))) g (j * 8) ((c + 7 * j : Nat) : Int)), fun j hj => ((setRow_other g (m8 (C : Int)) wr (k * 8) (j * 8 + 7) (by omega)).trans (r0 j hj)), r2.put (m8 (C : Int)) (k * 8) (by omega), fun b hb => (setRow_block g b hb (m8 (C : Int)) wr (k * 8)).trans (r3 b hb), (setRow_size g (m8 (C : Int)) wr (k * 8)).trans r4, setRow_below g g (Nat.le_refl _) w (m8 (C : Int)) wr (k * 8) r5⟩, by simp [intOf]; omega⟩
      by_cases e : j = k
      · subst e
        rw [hC]
        exact atM.new r2 (j * 8) (by omega) _ (r0 j hlt)
      · exact (r1 j (by omega)).keep (m8 (C : Int)) (k * 8) (by omega)
    · have hkn : k = n := by omega
      subst hkn
      go_wp2
      go_ret
      exact ⟨rfl, hdone, hrow, hoth, hsz, hb⟩
end Go.Proofs.Ytihndnclplkleaa
