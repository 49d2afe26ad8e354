import Derived.Test.YtfbeaekddgpmmaaGreatDoorK12
namespace Go.Proofs.YtfbeaekddgpmmaaGreatDoor
open Go.RowKit Kd
set_option linter.unusedVariables false
def rowF (w : World) (g m : Nat) : Prop := ∀ t, t < m → (∃ v, w.cell? ⟨g, t, none⟩ = some v) ∧ w.frozen? ⟨g, t, none⟩ = false
theorem frozen_up {W w : World} {g o : Nat} (he : W.heap[g]? = w.heap[g]?) : W.frozen? ⟨g, o, none⟩ = w.frozen? ⟨g, o, none⟩ := by simp only [World.frozen?, he]
theorem rowF.up {W w : World} {g N : Nat} (h : rowF w g N) (he : W.heap[g]? = w.heap[g]?) : rowF W g N := fun t ht => by
  obtain ⟨⟨u, hu⟩, hf⟩ := h t ht
  exact ⟨⟨u, cell_up hu he⟩, by rw [frozen_up he]; exact hf⟩
theorem rowF.setCell {w : World} {x N : Nat} (h : rowF w x N) (p : Addr) (v : Value) : rowF (w.setCell p v) x N := fun t ht => by
  obtain ⟨⟨u, hu⟩, hf⟩ := h t ht
  refine ⟨?_, by rw [World.frozen?_setCell]; exact hf⟩
  by_cases e : (⟨x, t, none⟩ : Addr) = p
  · subst e
    exact ⟨v, World.cell?_setCell_same _ _ _ hu⟩
  · exact ⟨u, by rw [World.cell?_setCell_other _ _ _ _ (fun hh => e hh.symm)]; exact hu⟩
theorem rowF.setRow {x N : Nat} (g : Nat) : ∀ (vs : List Value) (w : World) (p : Nat), rowF w x N → rowF (setRow w g p vs) x N := by
  intro vs
  induction vs with
  | nil => intro w p h; exact h
  | cons v vs ih => intro w p h; exact ih _ (p + 1) (h.setCell _ v)
theorem rowF.le {w : World} {x N M : Nat} (h : rowF w x N) (hM : M ≤ N) : rowF w x M := fun t ht => h t (by omega)
/-- marks of bytes from C on -/
def mkB (W : World) (b m C : Nat) : Prop := ∀ t, t < m → W.cell? ⟨b, t, none⟩ = some (.int .u8 (((C + t) % 256 : Nat) : Int))
set_option maxHeartbeats 2000000 in
theorem markByteS_any (w : World) (b m cap C : Nat) (hr : rowF w b m) (hcp : m ≤ cap) (hm : m ≤ 1048576) (hC : C ≤ 10000000000000000) :
    Calls Tryz.prog 41 #[.slice (some ⟨b, 0, none⟩) m cap, .int .i64 (C : Int)] w fun o w' => o = .returned (.int .i64 ((C + m : Nat) : Int)) ∧ mkB w' b m C ∧ (∀ x N, rowF w x N → rowF w' x N) ∧ (∀ x, x ≠ b → w'.heap[x]? = w.heap[x]?) ∧ w'.heap.size = w.heap.size ∧ Below b w w' := by
  have HR : Hid (rowF w b m) := hr
  clear hr
  go_enter Tryz.func41, Tryz.ntmps41
  go_wp2
  go_loopw [1, 5] (fun kk i wr => ∃ k : Nat, k ≤ m ∧ i = .int .i64 (k : Int) ∧ kk = .int .i64 ((C + k : Nat) : Int) ∧ mkB wr b k C ∧ (∀ x N, rowF w x N → rowF wr x N) ∧ (∀ x, x ≠ b → wr.heap[x]? = w.heap[x]?) ∧ wr.heap.size = w.heap.size ∧ Below b w wr) (fun _ i _ => m - (intOf i).toNat)
  case atStart => exact ⟨0, Nat.zero_le _, rfl, by go_num, fun j hj => absurd hj (Nat.not_lt_zero _), fun _ _ h => h, fun _ _ => rfl, rfl, Below.refl _ _⟩
  case round =>
    obtain ⟨k, hk, rfl, rfl, hdone, hrow, hoth, hsz, hb⟩ := hrel
    by_cases hlt : k < m
    · obtain ⟨⟨v0, z0⟩, f0⟩ := (hrow b m HR.out) k hlt
      have HD : Hid (mkB wr b k C ∧ (∀ x N, rowF w x N → rowF wr x N) ∧ (∀ x, x ≠ b → wr.heap[x]? = w.heap[x]?) ∧ wr.heap.size = w.heap.size ∧ Below b w wr) := ⟨hdone, hrow, hoth, hsz, hb⟩
      clear hdone hrow hoth hsz hb
      generalize hD : C + k = D at *
      have HD2 : Hid (C + k = D) := hD
      have hD1 : D ≤ 20000000000000000 := by omega
      clear hD
      go_wp2
      obtain ⟨r1, r2, r3, r4, r5⟩ := HD.out
      have hD := HD2.out
      refine ⟨⟨k + 1, by omega, by go_num, by rw [show C + (k + 1) = D + 1 by omega]; go_num, fun t ht => ?_, fun x N h => (r2 x N h).setCell _ _, fun x hx => (heap_setCell_other _ _ x _ hx).trans (r3 x hx), by simpa using r4, r5.setCell (Nat.le_refl _) _⟩, by simp [intOf]; omega⟩
      by_cases e : t = k
      · subst e
        rw [World.cell?_setCell_same _ _ _ z0, hD]
        congr 2
      · rw [World.cell?_setCell_other _ _ _ _ (by intro hh; exact e (by simpa using hh.symm))]
        exact r1 t (by omega)
    · have hkn : k = m := by omega
      subst hkn
      go_wp2
      go_ret
      exact ⟨rfl, hdone, hrow, hoth, hsz, hb⟩
theorem markByte_none (w : World) (cap C : Nat) : Calls Tryz.prog 41 #[.slice none 0 cap, .int .i64 (C : Int)] w fun o w' => o = .returned (.int .i64 (C : Int)) ∧ w' = w := by
  go_enter Tryz.func41, Tryz.ntmps41
  go_wp2
  go_loopw [1, 5] (fun kk i wr => i = .int .i64 0 ∧ kk = .int .i64 (C : Int) ∧ wr = w) (fun _ _ _ => 0)
  case atStart => exact ⟨rfl, rfl, rfl⟩
  case round =>
    obtain ⟨rfl, rfl, rfl⟩ := hrel
    go_wp2
    go_ret
    exact ⟨rfl, rfl⟩
theorem heldByte_none (w : World) (cap C : Nat) : Calls Tryz.prog 43 #[.slice none 0 cap, .int .i64 (C : Int)] w fun o w' => o = .returned (.int .i64 (C : Int)) ∧ w' = w := by
  go_enter Tryz.func43, Tryz.ntmps43
  go_wp2
  go_loopw [1, 5] (fun kk i wr => i = .int .i64 0 ∧ kk = .int .i64 (C : Int) ∧ wr = w) (fun _ _ _ => 0)
  case atStart => exact ⟨rfl, rfl, rfl⟩
  case round =>
    obtain ⟨rfl, rfl, rfl⟩ := hrel
    go_wp2
    go_ret
    exact ⟨rfl, rfl⟩
set_option maxHeartbeats 2000000 in
theorem heldByteS_any (w : World) (b m cap C : Nat) (hr : mkB w b m C) (hcp : m ≤ cap) (hm : m ≤ 1048576) (hC : C ≤ 10000000000000000) :
    Calls Tryz.prog 43 #[.slice (some ⟨b, 0, none⟩) m cap, .int .i64 (C : Int)] w fun o w' => o = .returned (.int .i64 ((C + m : Nat) : Int)) ∧ w' = w := by
  have HR : Hid (mkB w b m C) := hr
  clear hr
  go_enter Tryz.func43, Tryz.ntmps43
  go_wp2
  go_loopw [1, 5] (fun kk i wr => ∃ k : Nat, k ≤ m ∧ i = .int .i64 (k : Int) ∧ kk = .int .i64 ((C + k : Nat) : Int) ∧ wr = w) (fun _ i _ => m - (intOf i).toNat)
  case atStart => exact ⟨0, Nat.zero_le _, rfl, by go_num, rfl⟩
  case round =>
    obtain ⟨k, hk, rfl, rfl, rfl⟩ := hrel
    by_cases hlt : k < m
    · have z0 := HR.out k hlt
      generalize hD : C + k = D at *
      have HD2 : Hid (C + k = D) := hD
      have hD1 : D ≤ 20000000000000000 := by omega
      clear hD
      go_wp2
      refine ⟨⟨k + 1, by omega, by go_num, by rw [show C + (k + 1) = D + 1 by have := HD2.out; omega]; go_num, trivial⟩, by simp [intOf]; omega⟩
    · have hkn : k = m := by omega
      subst hkn
      go_wp2
      go_ret
      exact ⟨rfl, rfl⟩
open H
set_option maxHeartbeats 2000000 in
theorem markFilterS_big (w : World) (g n cap c : Nat) (hr : rowZ w g (n * 3)) (hcp : n ≤ cap) (hn : n ≤ 1048576) (hc : c ≤ 100000) :
    Calls Tryz.prog 40 #[.slice (some ⟨g, 0, none⟩) n cap, .int .i64 (c : Int)] w fun o w' => o = .returned (.int .i64 ((c + 3 * n : Nat) : Int)) ∧ (∀ j, j < n → at3 w' g (j * 3) (mkF (c + 3 * j))) ∧ rowZ w' g (n * 3) ∧ (∀ b, b ≠ g → w'.heap[b]? = w.heap[b]?) ∧ w'.heap.size = w.heap.size ∧ Below g w w' := by
  have HR : Hid (rowZ w g (n * 3)) := hr
  clear hr
  go_enter Tryz.func40, Tryz.ntmps40
  go_wp2
  go_loopw [1, 5] (fun kk i wr => ∃ k : Nat, k ≤ n ∧ i = .int .i64 (k : Int) ∧ kk = .int .i64 ((c + 3 * k : Nat) : Int) ∧ (∀ j, j < k → at3 wr g (j * 3) (mkF (c + 3 * j))) ∧ rowZ wr g (n * 3) ∧ (∀ b, b ≠ g → wr.heap[b]? = w.heap[b]?) ∧ wr.heap.size = w.heap.size ∧ Below g w wr) (fun _ i _ => n - (intOf i).toNat)
  case atStart => exact ⟨0, Nat.zero_le _, rfl, by go_num, fun j hj => absurd hj (Nat.not_lt_zero _), HR.out, fun _ _ => rfl, rfl, Below.refl _ _⟩
  case round =>
    obtain ⟨k, hk, rfl, rfl, hdone, hrow, hoth, hsz, hb⟩ := hrel
    by_cases hlt : k < n
    · obtain ⟨v0, z0⟩ := hrow.cell (k * 3) (by omega)
      obtain ⟨v1, z1⟩ := hrow.cell (k * 3 + 1) (by omega)
      obtain ⟨v2, z2⟩ := hrow.cell (k * 3 + 2) (by omega)
      have f0 := hrow.free (k * 3)
      have f1 := hrow.free (k * 3 + 1)
      have f2 := hrow.free (k * 3 + 2)
      have HD : Hid ((∀ j, j < k → at3 wr g (j * 3) (mkF (c + 3 * j))) ∧ rowZ wr g (n * 3) ∧ (∀ b, b ≠ g → wr.heap[b]? = w.heap[b]?) ∧ wr.heap.size = w.heap.size ∧ Below g w wr) := ⟨hdone, hrow, hoth, hsz, hb⟩
      clear hdone hrow hoth hsz hb
      generalize hC : c + 3 * k = C at *
      have HC : Hid (c + 3 * k = C) := hC
      have hC1 : C ≤ 4000000 := by omega
      clear hC
      have e3 : (C : Int).tmod 3 = ((C % 3 : Nat) : Int) := by rw [Int.tmod_eq_emod_of_nonneg (by omega)]; omega
      go_wp2
      obtain ⟨r1, r2, r3, r4, r5⟩ := HD.out
      have hC := HC.out
      refine ⟨⟨k + 1, by omega, by go_num, by rw [← hC]; go_num, fun j hj => ?_, r2.put [Value.bool ((C : Int) % 3 == 0), .int .u32 ((C : Int) + 1), .int .u32 ((C : Int) + 1 + 1)] (k * 3) (by simp; omega), fun b hb => (setRow_block g b hb [Value.bool ((C : Int) % 3 == 0), .int .u32 ((C : Int) + 1), .int .u32 ((C : Int) + 1 + 1)] wr (k * 3)).trans (r3 b hb), (Kd.setRow_size g [Value.bool ((C : Int) % 3 == 0), .int .u32 ((C : Int) + 1), .int .u32 ((C : Int) + 1 + 1)] wr (k * 3)).trans r4, setRow_below g g (Nat.le_refl _) w [Value.bool ((C : Int) % 3 == 0), .int .u32 ((C : Int) + 1), .int .u32 ((C : Int) + 1 + 1)] wr (k * 3) r5⟩, by simp [intOf]; omega⟩
      by_cases e : j = k
      · subst e
        have := at3.new r2 (j * 3) (by omega) (mkF C)
        rw [← mkF_row] at this
        rw [hC]
        exact this
      · exact (r1 j (by omega)).keep [Value.bool ((C : Int) % 3 == 0), .int .u32 ((C : Int) + 1), .int .u32 ((C : Int) + 1 + 1)] (k * 3) (by simp; omega)
    · have hkn : k = n := by omega
      subst hkn
      go_wp2
      go_ret
      exact ⟨rfl, hdone, hrow, hoth, hsz, hb⟩
set_option maxHeartbeats 2000000 in
theorem heldFilterS_big (w : World) (g n cap c : Nat) (hr : ∀ j, j < n → at3 w g (j * 3) (mkF (c + 3 * j))) (hcp : n ≤ cap) (hn : n ≤ 1048576) (hc : c ≤ 100000) :
    Calls Tryz.prog 42 #[.slice (some ⟨g, 0, none⟩) n cap, .int .i64 (c : Int)] w fun o w' => o = .returned (.int .i64 ((c + 3 * n : Nat) : Int)) ∧ Below w.heap.size w w' := by
  have HR : Hid (∀ j, j < n → at3 w g (j * 3) (mkF (c + 3 * j))) := hr
  clear hr
  go_enter Tryz.func42, Tryz.ntmps42
  go_wp2
  go_loopw [1, 5] (fun kk i wr => ∃ k q : Nat, k ≤ n ∧ i = .int .i64 (k : Int) ∧ kk = .int .i64 ((c + 3 * k : Nat) : Int) ∧ wr = w.drewN q) (fun _ i _ => n - (intOf i).toNat)
  case atStart => exact ⟨0, 0, Nat.zero_le _, rfl, by go_num, rfl⟩
  case round =>
    obtain ⟨k, q, hk, rfl, rfl, rfl⟩ := hrel
    by_cases hlt : k < n
    · have hx := HR.out k hlt
      have hgz := World.block_lt_of_cell? w _ hx.c0
      have x0 := ((below_q (B := w.heap.size) w q).cell (by exact hgz)).trans hx.c0
      have x1 := ((below_q (B := w.heap.size) w q).cell (by exact hgz)).trans hx.c1
      have x2 := ((below_q (B := w.heap.size) w q).cell (by exact hgz)).trans hx.c2
      clear hx
      generalize hC : c + 3 * k = C at *
      have HC : Hid (c + 3 * k = C) := hC
      have hC1 : C ≤ 4000000 := by omega
      clear hC
      have e3 : (C : Int).tmod 3 = ((C % 3 : Nat) : Int) := by rw [Int.tmod_eq_emod_of_nonneg (by omega)]; omega
      have h1 : (mkF C).e = ((C : Int) % 3 == 0) := by rw [Bool.eq_iff_iff]; simp [mkF]; omega
      have h2 : (mkF C).m = (C : Int) + 1 := by simp [mkF]
      have h3 : (mkF C).k = (C : Int) + 1 + 1 := by simp [mkF]; omega
      rw [h1] at x0
      rw [h2] at x1
      rw [h3] at x2
      clear h1 h2 h3
      generalize hW : w.drewN q = W at *
      have HW : Hid (W = w.drewN q) := hW.symm
      clear hW
      go_wp2
      refine ⟨⟨k + 1, q, by omega, by go_num, by rw [← HC.out]; go_num, HW.out⟩, by simp [intOf]; omega⟩
    · have hkn : k = n := by omega
      subst hkn
      go_wp2
      go_ret
      exact ⟨rfl, below_q w q⟩
end Go.Proofs.YtfbeaekddgpmmaaGreatDoor
