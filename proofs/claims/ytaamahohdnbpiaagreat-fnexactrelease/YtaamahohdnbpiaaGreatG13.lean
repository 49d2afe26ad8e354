import Derived.Test.YtaamahohdnbpiaaGreatG12
import Derived.Test.YtaamahohdnbpiaaGreatG05
namespace Go.Proofs.YtaamahohdnbpiaaGreat
open Go.RowKit
set_option linter.unusedVariables false
abbrev Hd := Option Addr × Nat × Nat
/-- the bytes of a record: none, or in a block other than g -/
def hd (W : World) (g : Nat) (h : Hd) : Prop := h.2.1 ≤ 1048576 ∧ h.2.1 ≤ h.2.2 ∧ ((h.1 = none ∧ h.2.1 = 0) ∨ ∃ b, h.1 = some ⟨b, 0, none⟩ ∧ b ≠ g ∧ rowF W b h.2.1)
theorem hd.up {W W' : World} {g : Nat} {h : Hd} (H : hd W g h) (hr : ∀ x N, rowF W x N → rowF W' x N) : hd W' g h := by
  obtain ⟨h1, h2, h3⟩ := H
  refine ⟨h1, h2, ?_⟩
  rcases h3 with h3 | ⟨b, e, hn, hf⟩
  · exact Or.inl h3
  · exact Or.inr ⟨b, e, hn, hr _ _ hf⟩
/-- no two of the rows of bytes are one -/
def dst (hs : Nat → Hd) (n : Nat) : Prop := ∀ i j, i < j → j < n → ∀ b, (hs i).1 = some ⟨b, 0, none⟩ → (hs j).1 ≠ some ⟨b, 0, none⟩
/-- no row of bytes lies below B -/
def abv (B : Nat) (hs : Nat → Hd) (n : Nat) : Prop := ∀ j, j < n → ∀ b, (hs j).1 = some ⟨b, 0, none⟩ → B ≤ b
theorem markHd (B : Nat) (W : World) (g : Nat) (a : Option Addr) (m cc C : Nat) (H : hd W g (a, m, cc)) (hB : ∀ b, a = some ⟨b, 0, none⟩ → B ≤ b) (hC : C ≤ 10000000000000000) :
    Calls Tryz.prog 99 #[.slice a m cc, .int .i64 (C : Int)] W fun o w' => o = .returned (.int .i64 ((C + m : Nat) : Int)) ∧ (∀ b, a = some ⟨b, 0, none⟩ → mkB w' b m C) ∧ (∀ x N, rowF W x N → rowF w' x N) ∧ (∀ x, a ≠ some ⟨x, 0, none⟩ → w'.heap[x]? = W.heap[x]?) ∧ w'.heap.size = W.heap.size ∧ Below B W w' := by
  obtain ⟨h1, h2, ⟨e, hm⟩ | ⟨b, e, hn, hf⟩⟩ := H
  · simp only at e hm
    subst e
    subst hm
    refine (markByte_none W cc C).mono ?_
    rintro o w' ⟨rfl, rfl⟩
    exact ⟨rfl, fun b hb => absurd hb (by simp), fun _ _ h => h, fun _ _ => rfl, rfl, Below.refl _ _⟩
  · simp only at e hf h1 h2
    subst e
    refine (markByteS_any W b m cc C hf h2 h1 hC).mono ?_
    rintro o w' ⟨rfl, q1, q2, q3, q4, q5⟩
    exact ⟨rfl, fun b' hb => by cases hb; exact q1, q2, fun x hx => q3 x (fun e => hx (by rw [e])), q4, q5.mono (hB b rfl)⟩
theorem heldHd (W : World) (g : Nat) (a : Option Addr) (m cc C : Nat) (H : hd W g (a, m, cc)) (hk : ∀ b, a = some ⟨b, 0, none⟩ → mkB W b m C) (hC : C ≤ 10000000000000000) :
    Calls Tryz.prog 103 #[.slice a m cc, .int .i64 (C : Int)] W fun o w' => o = .returned (.int .i64 ((C + m : Nat) : Int)) ∧ w' = W := by
  obtain ⟨h1, h2, ⟨e, hm⟩ | ⟨b, e, hn, hf⟩⟩ := H
  · simp only at e hm
    subst e
    subst hm
    exact (heldByte_none W cc C)
  · simp only at e hf h1 h2
    subst e
    exact heldByteS_any W b m cc C (hk b rfl) h2 h1 hC
/-- n records of 8 cells at g, their bytes as hs tells -/
structure sh8 (W : World) (g n : Nat) (hs : Nat → Hd) : Prop where
  row : rowF W g (n * 8)
  dat : ∀ j, j < n → W.cell? ⟨g, j * 8 + 7, none⟩ = some (.slice (hs j).1 (hs j).2.1 (hs j).2.2) ∧ hd W g (hs j)
/-- the number of marks behind j records -/
def cn8 (c : Nat) (hs : Nat → Hd) : Nat → Nat
  | 0 => c
  | j + 1 => cn8 c hs j + 7 + (hs j).2.1
theorem cn8_le (c n : Nat) (hs : Nat → Hd) (h : ∀ j, j < n → (hs j).2.1 ≤ 1048576) : ∀ j, j ≤ n → cn8 c hs j ≤ c + j * 1048583 := by
  intro j
  induction j with
  | zero => intro _; exact Nat.le_refl _
  | succ j ih =>
    intro hj
    have h1 := ih (by omega)
    have h2 := h j (by omega)
    simp only [cn8]
    omega
/-- the cells that the marks from C on make -/
def m8w (C : Nat) : List Value := [Value.int .i64 (C : Int), Value.int .i64 ((C : Int) + 1), Value.int .i64 ((C : Int) + 1 + 1), Value.bool ((C : Int) % 3 == 0), Value.int .u32 (((C : Int) + 1 + 1 + 1 + 1) % 4294967296), Value.bool (((C : Int) + 5) % 3 == 0), Value.int .i64 ((C : Int) + 1 + 1 + 1 + 1 + 1 + 1)]
/-- a record marked from C on -/
structure mk8 (W : World) (g o C : Nat) (h : Hd) : Prop where
  row : ∀ t (ht : t < 7), W.cell? ⟨g, o + t, none⟩ = some ((m8w C)[t]'(by simpa [m8w] using ht))
  dat : ∀ b, h.1 = some ⟨b, 0, none⟩ → mkB W b h.2.1 (C + 7)
theorem mk8.up {W W' : World} {g o C : Nat} {h : Hd} (H : mk8 W g o C h) (hg : W'.heap[g]? = W.heap[g]?) (hb : ∀ b, h.1 = some ⟨b, 0, none⟩ → W'.heap[b]? = W.heap[b]?) : mk8 W' g o C h :=
  ⟨fun t ht => cell_up (H.row t ht) hg, fun b e t ht => cell_up (H.dat b e t ht) (hb b e)⟩
theorem sh8.up {W W' : World} {g n : Nat} {hs : Nat → Hd} (H : sh8 W g n hs) (hg : W'.heap[g]? = W.heap[g]?) (hr : ∀ x N, rowF W x N → rowF W' x N) : sh8 W' g n hs :=
  ⟨H.row.up hg, fun j hj => ⟨cell_up (H.dat j hj).1 hg, (H.dat j hj).2.up hr⟩⟩
/-- n records of 5 cells at g, their bytes as hs tells -/
structure sh5 (W : World) (g n : Nat) (hs : Nat → Hd) : Prop where
  row : rowF W g (n * 5)
  dat : ∀ j, j < n → W.cell? ⟨g, j * 5 + 4, none⟩ = some (.slice (hs j).1 (hs j).2.1 (hs j).2.2) ∧ hd W g (hs j)
/-- the number of marks behind j records -/
def cn5 (c : Nat) (hs : Nat → Hd) : Nat → Nat
  | 0 => c
  | j + 1 => cn5 c hs j + 4 + (hs j).2.1
theorem cn5_le (c n : Nat) (hs : Nat → Hd) (h : ∀ j, j < n → (hs j).2.1 ≤ 1048576) : ∀ j, j ≤ n → cn5 c hs j ≤ c + j * 1048583 := by
  intro j
  induction j with
  | zero => intro _; exact Nat.le_refl _
  | succ j ih =>
    intro hj
    have h1 := ih (by omega)
    have h2 := h j (by omega)
    simp only [cn5]
    omega
/-- the cells that the marks from C on make -/
def m5w (C : Nat) : List Value := [Value.bool ((C : Int) % 3 == 0), Value.int .u32 (((C : Int) + 1) % 4294967296), Value.bool (((C : Int) + 2) % 3 == 0), Value.int .i64 ((C : Int) + 1 + 1 + 1)]
/-- a record marked from C on -/
structure mk5 (W : World) (g o C : Nat) (h : Hd) : Prop where
  row : ∀ t (ht : t < 4), W.cell? ⟨g, o + t, none⟩ = some ((m5w C)[t]'(by simpa [m5w] using ht))
  dat : ∀ b, h.1 = some ⟨b, 0, none⟩ → mkB W b h.2.1 (C + 4)
theorem mk5.up {W W' : World} {g o C : Nat} {h : Hd} (H : mk5 W g o C h) (hg : W'.heap[g]? = W.heap[g]?) (hb : ∀ b, h.1 = some ⟨b, 0, none⟩ → W'.heap[b]? = W.heap[b]?) : mk5 W' g o C h :=
  ⟨fun t ht => cell_up (H.row t ht) hg, fun b e t ht => cell_up (H.dat b e t ht) (hb b e)⟩
theorem sh5.up {W W' : World} {g n : Nat} {hs : Nat → Hd} (H : sh5 W g n hs) (hg : W'.heap[g]? = W.heap[g]?) (hr : ∀ x N, rowF W x N → rowF W' x N) : sh5 W' g n hs :=
  ⟨H.row.up hg, fun j hj => ⟨cell_up (H.dat j hj).1 hg, (H.dat j hj).2.up hr⟩⟩
set_option maxHeartbeats 8000000 in
set_option maxRecDepth 20000 in
theorem markBoxS_gen (B : Nat) (w : World) (g n cap c : Nat) (hs : Nat → Hd) (h : sh8 w g n hs) (hcp : n ≤ cap) (hn : n ≤ 1048576) (hc : c ≤ 20000000000000) (hB : B ≤ g) (hB2 : abv B hs n) :
    Calls Tryz.prog 97 #[.slice (some ⟨g, 0, none⟩) n cap, .int .i64 (c : Int)] w fun o w' => o = .returned (.int .i64 (cn8 c hs n : Int)) ∧ (dst hs n → ∀ j, j < n → mk8 w' g (j * 8) (cn8 c hs j) (hs j)) ∧ sh8 w' g n hs ∧ (∀ x N, rowF w x N → rowF w' x N) ∧ (∀ x, x ≠ g → (∀ j, j < n → (hs j).1 ≠ some ⟨x, 0, none⟩) → w'.heap[x]? = w.heap[x]?) ∧ w'.heap.size = w.heap.size ∧ Below B w w' := by
  have HSH : Hid (sh8 w g n hs) := h
  have HB2 : Hid (abv B hs n) := hB2
  have HLE : Hid (∀ j, j ≤ n → cn8 c hs j ≤ c + j * 1048583) := cn8_le c n hs (fun j hj => (h.dat j hj).2.1)
  clear h hB2
  go_enter Tryz.func97, Tryz.ntmps97
  go_wp2
  go_loopw [1, 5] (fun kk i wr => ∃ k : Nat, k ≤ n ∧ i = .int .i64 (k : Int) ∧ kk = .int .i64 (cn8 c hs k : Int) ∧ (dst hs n → ∀ j, j < k → mk8 wr g (j * 8) (cn8 c hs j) (hs j)) ∧ sh8 wr g n hs ∧ (∀ x N, rowF w x N → rowF wr x N) ∧ (∀ x, x ≠ g → (∀ j, j < n → (hs j).1 ≠ some ⟨x, 0, none⟩) → wr.heap[x]? = w.heap[x]?) ∧ wr.heap.size = w.heap.size ∧ Below B w wr) (fun _ i _ => n - (intOf i).toNat)
  case atStart => exact ⟨0, Nat.zero_le _, rfl, rfl, fun _ j hj => absurd hj (Nat.not_lt_zero _), HSH.out, fun _ _ h => h, fun _ _ _ => rfl, rfl, Below.refl _ _⟩
  case round =>
    obtain ⟨k, hk, rfl, rfl, hdone, hsh, hrow, hoth, hsz, hb⟩ := hrel
    by_cases hlt : k < n
    · have hkn : k * 8 + 8 ≤ n * 8 := by omega
      obtain ⟨⟨v0, z0⟩, f0⟩ := hsh.row (k * 8) (by omega)
      obtain ⟨⟨v1, z1⟩, f1⟩ := hsh.row (k * 8 + 1) (by omega)
      obtain ⟨⟨v2, z2⟩, f2⟩ := hsh.row (k * 8 + 2) (by omega)
      obtain ⟨⟨v3, z3⟩, f3⟩ := hsh.row (k * 8 + 3) (by omega)
      obtain ⟨⟨v4, z4⟩, f4⟩ := hsh.row (k * 8 + 4) (by omega)
      obtain ⟨⟨v5, z5⟩, f5⟩ := hsh.row (k * 8 + 5) (by omega)
      obtain ⟨⟨v6, z6⟩, f6⟩ := hsh.row (k * 8 + 6) (by omega)
      obtain ⟨zd, hh⟩ := hsh.dat k hlt
      have HD : Hid ((dst hs n → ∀ j, j < k → mk8 wr g (j * 8) (cn8 c hs j) (hs j)) ∧ sh8 wr g n hs ∧ (∀ x N, rowF w x N → rowF wr x N) ∧ (∀ x, x ≠ g → (∀ j, j < n → (hs j).1 ≠ some ⟨x, 0, none⟩) → wr.heap[x]? = w.heap[x]?) ∧ wr.heap.size = w.heap.size ∧ Below B w wr) := ⟨hdone, hsh, hrow, hoth, hsz, hb⟩
      clear hdone hsh hrow hoth hsz hb
      have HCN : Hid (cn8 c hs (k + 1) = cn8 c hs k + 7 + (hs k).2.1) := rfl
      have hC1 : cn8 c hs k ≤ 30000000000000 := by have := HLE.out k hk; omega
      generalize hC : cn8 c hs k = C at *
      have HC : Hid (cn8 c hs k = C) := hC
      clear hC
      have HAB : Hid (∀ b, (hs k).1 = some ⟨b, 0, none⟩ → B ≤ b) := HB2.out k hlt
      obtain ⟨t, ht⟩ : ∃ t, hs k = t := ⟨_, rfl⟩
      have HT : Hid (hs k = t) := ht
      rw [ht] at zd hh HCN HAB
      clear ht
      obtain ⟨a, m, cc⟩ := t
      simp only at zd
      have hm : m ≤ 1048576 := hh.1
      have e3 : ((C : Int) + 1 + 1 + 1).tmod 3 = (((C + 3) % 3 : Nat) : Int) := by rw [Int.tmod_eq_emod_of_nonneg (by omega)]; omega
      have e5 : ((C : Int) + 1 + 1 + 1 + 1 + 1).tmod 3 = (((C + 5) % 3 : Nat) : Int) := by rw [Int.tmod_eq_emod_of_nonneg (by omega)]; omega
      have HBY : Hid (∀ W, (∀ x N, rowF wr x N → rowF W x N) → Calls Tryz.prog 99 #[.slice a m cc, .int .i64 ((C : Int) + 1 + 1 + 1 + 1 + 1 + 1 + 1)] W fun o w' => o = .returned (.int .i64 ((C + 7 + m : Nat) : Int)) ∧ (∀ b, a = some ⟨b, 0, none⟩ → mkB w' b m (C + 7)) ∧ (∀ x N, rowF W x N → rowF w' x N) ∧ (∀ x, a ≠ some ⟨x, 0, none⟩ → w'.heap[x]? = W.heap[x]?) ∧ w'.heap.size = W.heap.size ∧ Below B W w') := fun W hW => by
        have := markHd B W g a m cc (C + 7) (hh.up hW) HAB.out (by omega)
        have e : (((C + 7 : Nat)) : Int) = (C : Int) + 1 + 1 + 1 + 1 + 1 + 1 + 1 := by omega
        rw [e] at this
        exact this
      have HH : Hid (hd wr g (a, m, cc)) := hh
      clear hh
      go_wp2_with (first | (go_at_call 99; refine (HBY.out _ (fun x N h => h.setRow g (m8w C) wr (k * 8))).mono ?_; rintro o w5 ⟨rfl, q1, q2, q3, q4, q5⟩; have HQ : Hid ((∀ b, a = some ⟨b, 0, none⟩ → mkB w5 b m (C + 7)) ∧ (∀ x N, rowF (setRow wr g (k * 8) (m8w C)) x N → rowF w5 x N) ∧ (∀ x, a ≠ some ⟨x, 0, none⟩ → w5.heap[x]? = (setRow wr g (k * 8) (m8w C)).heap[x]?) ∧ w5.heap.size = (setRow wr g (k * 8) (m8w C)).heap.size ∧ Below B (setRow wr g (k * 8) (m8w C)) w5) := ⟨q1, q2, q3, q4, q5⟩; clear q1 q2 q3 q4 q5))
      obtain ⟨q1, q2, q3, q4, q5⟩ := HQ.out
      obtain ⟨r1, r0, r2, r3, r4, r5⟩ := HD.out
      have hT := HT.out
      have hC := HC.out
      have hl : (m8w C).length = 7 := rfl
      have hag : a ≠ some ⟨g, 0, none⟩ := by
        rcases HH.out.2.2 with ⟨e, _⟩ | ⟨b, e, hne, _⟩
        · intro h; rw [h] at e; cases e
        · intro h; rw [h] at e; cases e; exact hne rfl
      have hgb := q3 g hag
      have hrf : ∀ x N, rowF wr x N → rowF w5 x N := fun x N h => q2 x N (h.setRow g (m8w C) wr (k * 8))
      refine ⟨⟨k + 1, by omega, by go_num, by rw [HCN.out]; congr 1, fun hd j hj => ?_, ⟨hrf _ _ r0.row, fun j hj => ⟨cell_up ((setRow_other g (m8w C) wr (k * 8) (j * 8 + 7) (by omega)).trans (r0.dat j hj).1) hgb, (r0.dat j hj).2.up hrf⟩⟩, fun x N h => hrf x N (r2 x N h), fun x hx hj => (q3 x (by have := hj k hlt; rw [hT] at this; exact this)).trans ((setRow_block g x hx (m8w C) wr (k * 8)).trans (r3 x hx hj)), by rw [q4, setRow_size]; exact r4, (setRow_below g B hB w (m8w C) wr (k * 8) r5).trans q5⟩, by simp [intOf]; omega⟩
      by_cases e : j = k
      · subst e
        rw [hT, hC]
        exact ⟨fun t ht => cell_up (setRow_at g (m8w C) wr (j * 8) t (by omega) (r0.row (j * 8 + t) (by omega)).1) hgb, fun b hb => q1 b hb⟩
      · have hj' : j < k := by omega
        have H0 := r1 hd j hj'
        refine ⟨fun t ht => cell_up ((setRow_other g (m8w C) wr (k * 8) (j * 8 + t) (by omega)).trans (H0.row t ht)) hgb, fun b hb t ht => cell_up (H0.dat b hb t ht) ?_⟩
        have hbg : b ≠ g := by
          rcases (r0.dat j (by omega)).2.2.2 with ⟨e, _⟩ | ⟨b', e, hne, _⟩
          · rw [hb] at e; cases e
          · rw [hb] at e; cases e; exact hne
        have hba : a ≠ some ⟨b, 0, none⟩ := by
          have := hd j k hj' hlt b hb
          rw [hT] at this
          exact this
        exact (q3 b hba).trans (setRow_block g b hbg (m8w C) wr (k * 8))
    · have hkn : k = n := by omega
      subst hkn
      go_wp2
      go_ret
      exact ⟨rfl, hdone, hsh, hrow, hoth, hsz, hb⟩
set_option maxHeartbeats 8000000 in
set_option maxRecDepth 20000 in
theorem markEventS_gen (B : Nat) (w : World) (g n cap c : Nat) (hs : Nat → Hd) (h : sh8 w g n hs) (hcp : n ≤ cap) (hn : n ≤ 1048576) (hc : c ≤ 20000000000000) (hB : B ≤ g) (hB2 : abv B hs n) :
    Calls Tryz.prog 40 #[.slice (some ⟨g, 0, none⟩) n cap, .int .i64 (c : Int)] w fun o w' => o = .returned (.int .i64 (cn8 c hs n : Int)) ∧ (dst hs n → ∀ j, j < n → mk8 w' g (j * 8) (cn8 c hs j) (hs j)) ∧ sh8 w' g n hs ∧ (∀ x N, rowF w x N → rowF w' x N) ∧ (∀ x, x ≠ g → (∀ j, j < n → (hs j).1 ≠ some ⟨x, 0, none⟩) → w'.heap[x]? = w.heap[x]?) ∧ w'.heap.size = w.heap.size ∧ Below B w w' := by
  have HSH : Hid (sh8 w g n hs) := h
  have HB2 : Hid (abv B hs n) := hB2
  have HLE : Hid (∀ j, j ≤ n → cn8 c hs j ≤ c + j * 1048583) := cn8_le c n hs (fun j hj => (h.dat j hj).2.1)
  clear h hB2
  go_enter Tryz.func40, Tryz.ntmps40
  go_wp2
  go_loopw [1, 5] (fun kk i wr => ∃ k : Nat, k ≤ n ∧ i = .int .i64 (k : Int) ∧ kk = .int .i64 (cn8 c hs k : Int) ∧ (dst hs n → ∀ j, j < k → mk8 wr g (j * 8) (cn8 c hs j) (hs j)) ∧ sh8 wr g n hs ∧ (∀ x N, rowF w x N → rowF wr x N) ∧ (∀ x, x ≠ g → (∀ j, j < n → (hs j).1 ≠ some ⟨x, 0, none⟩) → wr.heap[x]? = w.heap[x]?) ∧ wr.heap.size = w.heap.size ∧ Below B w wr) (fun _ i _ => n - (intOf i).toNat)
  case atStart => exact ⟨0, Nat.zero_le _, rfl, rfl, fun _ j hj => absurd hj (Nat.not_lt_zero _), HSH.out, fun _ _ h => h, fun _ _ _ => rfl, rfl, Below.refl _ _⟩
  case round =>
    obtain ⟨k, hk, rfl, rfl, hdone, hsh, hrow, hoth, hsz, hb⟩ := hrel
    by_cases hlt : k < n
    · have hkn : k * 8 + 8 ≤ n * 8 := by omega
      obtain ⟨⟨v0, z0⟩, f0⟩ := hsh.row (k * 8) (by omega)
      obtain ⟨⟨v1, z1⟩, f1⟩ := hsh.row (k * 8 + 1) (by omega)
      obtain ⟨⟨v2, z2⟩, f2⟩ := hsh.row (k * 8 + 2) (by omega)
      obtain ⟨⟨v3, z3⟩, f3⟩ := hsh.row (k * 8 + 3) (by omega)
      obtain ⟨⟨v4, z4⟩, f4⟩ := hsh.row (k * 8 + 4) (by omega)
      obtain ⟨⟨v5, z5⟩, f5⟩ := hsh.row (k * 8 + 5) (by omega)
      obtain ⟨⟨v6, z6⟩, f6⟩ := hsh.row (k * 8 + 6) (by omega)
      obtain ⟨zd, hh⟩ := hsh.dat k hlt
      have HD : Hid ((dst hs n → ∀ j, j < k → mk8 wr g (j * 8) (cn8 c hs j) (hs j)) ∧ sh8 wr g n hs ∧ (∀ x N, rowF w x N → rowF wr x N) ∧ (∀ x, x ≠ g → (∀ j, j < n → (hs j).1 ≠ some ⟨x, 0, none⟩) → wr.heap[x]? = w.heap[x]?) ∧ wr.heap.size = w.heap.size ∧ Below B w wr) := ⟨hdone, hsh, hrow, hoth, hsz, hb⟩
      clear hdone hsh hrow hoth hsz hb
      have HCN : Hid (cn8 c hs (k + 1) = cn8 c hs k + 7 + (hs k).2.1) := rfl
      have hC1 : cn8 c hs k ≤ 30000000000000 := by have := HLE.out k hk; omega
      generalize hC : cn8 c hs k = C at *
      have HC : Hid (cn8 c hs k = C) := hC
      clear hC
      have HAB : Hid (∀ b, (hs k).1 = some ⟨b, 0, none⟩ → B ≤ b) := HB2.out k hlt
      obtain ⟨t, ht⟩ : ∃ t, hs k = t := ⟨_, rfl⟩
      have HT : Hid (hs k = t) := ht
      rw [ht] at zd hh HCN HAB
      clear ht
      obtain ⟨a, m, cc⟩ := t
      simp only at zd
      have hm : m ≤ 1048576 := hh.1
      have e3 : ((C : Int) + 1 + 1 + 1).tmod 3 = (((C + 3) % 3 : Nat) : Int) := by rw [Int.tmod_eq_emod_of_nonneg (by omega)]; omega
      have e5 : ((C : Int) + 1 + 1 + 1 + 1 + 1).tmod 3 = (((C + 5) % 3 : Nat) : Int) := by rw [Int.tmod_eq_emod_of_nonneg (by omega)]; omega
      have HBY : Hid (∀ W, (∀ x N, rowF wr x N → rowF W x N) → Calls Tryz.prog 99 #[.slice a m cc, .int .i64 ((C : Int) + 1 + 1 + 1 + 1 + 1 + 1 + 1)] W fun o w' => o = .returned (.int .i64 ((C + 7 + m : Nat) : Int)) ∧ (∀ b, a = some ⟨b, 0, none⟩ → mkB w' b m (C + 7)) ∧ (∀ x N, rowF W x N → rowF w' x N) ∧ (∀ x, a ≠ some ⟨x, 0, none⟩ → w'.heap[x]? = W.heap[x]?) ∧ w'.heap.size = W.heap.size ∧ Below B W w') := fun W hW => by
        have := markHd B W g a m cc (C + 7) (hh.up hW) HAB.out (by omega)
        have e : (((C + 7 : Nat)) : Int) = (C : Int) + 1 + 1 + 1 + 1 + 1 + 1 + 1 := by omega
        rw [e] at this
        exact this
      have HH : Hid (hd wr g (a, m, cc)) := hh
      clear hh
      go_wp2_with (first | (go_at_call 99; refine (HBY.out _ (fun x N h => h.setRow g (m8w C) wr (k * 8))).mono ?_; rintro o w5 ⟨rfl, q1, q2, q3, q4, q5⟩; have HQ : Hid ((∀ b, a = some ⟨b, 0, none⟩ → mkB w5 b m (C + 7)) ∧ (∀ x N, rowF (setRow wr g (k * 8) (m8w C)) x N → rowF w5 x N) ∧ (∀ x, a ≠ some ⟨x, 0, none⟩ → w5.heap[x]? = (setRow wr g (k * 8) (m8w C)).heap[x]?) ∧ w5.heap.size = (setRow wr g (k * 8) (m8w C)).heap.size ∧ Below B (setRow wr g (k * 8) (m8w C)) w5) := ⟨q1, q2, q3, q4, q5⟩; clear q1 q2 q3 q4 q5))
      obtain ⟨q1, q2, q3, q4, q5⟩ := HQ.out
      obtain ⟨r1, r0, r2, r3, r4, r5⟩ := HD.out
      have hT := HT.out
      have hC := HC.out
      have hl : (m8w C).length = 7 := rfl
      have hag : a ≠ some ⟨g, 0, none⟩ := by
        rcases HH.out.2.2 with ⟨e, _⟩ | ⟨b, e, hne, _⟩
        · intro h; rw [h] at e; cases e
        · intro h; rw [h] at e; cases e; exact hne rfl
      have hgb := q3 g hag
      have hrf : ∀ x N, rowF wr x N → rowF w5 x N := fun x N h => q2 x N (h.setRow g (m8w C) wr (k * 8))
      refine ⟨⟨k + 1, by omega, by go_num, by rw [HCN.out]; congr 1, fun hd j hj => ?_, ⟨hrf _ _ r0.row, fun j hj => ⟨cell_up ((setRow_other g (m8w C) wr (k * 8) (j * 8 + 7) (by omega)).trans (r0.dat j hj).1) hgb, (r0.dat j hj).2.up hrf⟩⟩, fun x N h => hrf x N (r2 x N h), fun x hx hj => (q3 x (by have := hj k hlt; rw [hT] at this; exact this)).trans ((setRow_block g x hx (m8w C) wr (k * 8)).trans (r3 x hx hj)), by rw [q4, setRow_size]; exact r4, (setRow_below g B hB w (m8w C) wr (k * 8) r5).trans q5⟩, by simp [intOf]; omega⟩
      by_cases e : j = k
      · subst e
        rw [hT, hC]
        exact ⟨fun t ht => cell_up (setRow_at g (m8w C) wr (j * 8) t (by omega) (r0.row (j * 8 + t) (by omega)).1) hgb, fun b hb => q1 b hb⟩
      · have hj' : j < k := by omega
        have H0 := r1 hd j hj'
        refine ⟨fun t ht => cell_up ((setRow_other g (m8w C) wr (k * 8) (j * 8 + t) (by omega)).trans (H0.row t ht)) hgb, fun b hb t ht => cell_up (H0.dat b hb t ht) ?_⟩
        have hbg : b ≠ g := by
          rcases (r0.dat j (by omega)).2.2.2 with ⟨e, _⟩ | ⟨b', e, hne, _⟩
          · rw [hb] at e; cases e
          · rw [hb] at e; cases e; exact hne
        have hba : a ≠ some ⟨b, 0, none⟩ := by
          have := hd j k hj' hlt b hb
          rw [hT] at this
          exact this
        exact (q3 b hba).trans (setRow_block g b hbg (m8w C) wr (k * 8))
    · have hkn : k = n := by omega
      subst hkn
      go_wp2
      go_ret
      exact ⟨rfl, hdone, hsh, hrow, hoth, hsz, hb⟩
set_option maxHeartbeats 8000000 in
set_option maxRecDepth 20000 in
theorem markFrameS_gen (B : Nat) (w : World) (g n cap c : Nat) (hs : Nat → Hd) (h : sh5 w g n hs) (hcp : n ≤ cap) (hn : n ≤ 1048576) (hc : c ≤ 20000000000000) (hB : B ≤ g) (hB2 : abv B hs n) :
    Calls Tryz.prog 98 #[.slice (some ⟨g, 0, none⟩) n cap, .int .i64 (c : Int)] w fun o w' => o = .returned (.int .i64 (cn5 c hs n : Int)) ∧ (dst hs n → ∀ j, j < n → mk5 w' g (j * 5) (cn5 c hs j) (hs j)) ∧ sh5 w' g n hs ∧ (∀ x N, rowF w x N → rowF w' x N) ∧ (∀ x, x ≠ g → (∀ j, j < n → (hs j).1 ≠ some ⟨x, 0, none⟩) → w'.heap[x]? = w.heap[x]?) ∧ w'.heap.size = w.heap.size ∧ Below B w w' := by
  have HSH : Hid (sh5 w g n hs) := h
  have HB2 : Hid (abv B hs n) := hB2
  have HLE : Hid (∀ j, j ≤ n → cn5 c hs j ≤ c + j * 1048583) := cn5_le c n hs (fun j hj => (h.dat j hj).2.1)
  clear h hB2
  go_enter Tryz.func98, Tryz.ntmps98
  go_wp2
  go_loopw [1, 5] (fun kk i wr => ∃ k : Nat, k ≤ n ∧ i = .int .i64 (k : Int) ∧ kk = .int .i64 (cn5 c hs k : Int) ∧ (dst hs n → ∀ j, j < k → mk5 wr g (j * 5) (cn5 c hs j) (hs j)) ∧ sh5 wr g n hs ∧ (∀ x N, rowF w x N → rowF wr x N) ∧ (∀ x, x ≠ g → (∀ j, j < n → (hs j).1 ≠ some ⟨x, 0, none⟩) → wr.heap[x]? = w.heap[x]?) ∧ wr.heap.size = w.heap.size ∧ Below B w wr) (fun _ i _ => n - (intOf i).toNat)
  case atStart => exact ⟨0, Nat.zero_le _, rfl, rfl, fun _ j hj => absurd hj (Nat.not_lt_zero _), HSH.out, fun _ _ h => h, fun _ _ _ => rfl, rfl, Below.refl _ _⟩
  case round =>
    obtain ⟨k, hk, rfl, rfl, hdone, hsh, hrow, hoth, hsz, hb⟩ := hrel
    by_cases hlt : k < n
    · have hkn : k * 5 + 5 ≤ n * 5 := by omega
      obtain ⟨⟨v0, z0⟩, f0⟩ := hsh.row (k * 5) (by omega)
      obtain ⟨⟨v1, z1⟩, f1⟩ := hsh.row (k * 5 + 1) (by omega)
      obtain ⟨⟨v2, z2⟩, f2⟩ := hsh.row (k * 5 + 2) (by omega)
      obtain ⟨⟨v3, z3⟩, f3⟩ := hsh.row (k * 5 + 3) (by omega)
      obtain ⟨zd, hh⟩ := hsh.dat k hlt
      have HD : Hid ((dst hs n → ∀ j, j < k → mk5 wr g (j * 5) (cn5 c hs j) (hs j)) ∧ sh5 wr g n hs ∧ (∀ x N, rowF w x N → rowF wr x N) ∧ (∀ x, x ≠ g → (∀ j, j < n → (hs j).1 ≠ some ⟨x, 0, none⟩) → wr.heap[x]? = w.heap[x]?) ∧ wr.heap.size = w.heap.size ∧ Below B w wr) := ⟨hdone, hsh, hrow, hoth, hsz, hb⟩
      clear hdone hsh hrow hoth hsz hb
      have HCN : Hid (cn5 c hs (k + 1) = cn5 c hs k + 4 + (hs k).2.1) := rfl
      have hC1 : cn5 c hs k ≤ 30000000000000 := by have := HLE.out k hk; omega
      generalize hC : cn5 c hs k = C at *
      have HC : Hid (cn5 c hs k = C) := hC
      clear hC
      have HAB : Hid (∀ b, (hs k).1 = some ⟨b, 0, none⟩ → B ≤ b) := HB2.out k hlt
      obtain ⟨t, ht⟩ : ∃ t, hs k = t := ⟨_, rfl⟩
      have HT : Hid (hs k = t) := ht
      rw [ht] at zd hh HCN HAB
      clear ht
      obtain ⟨a, m, cc⟩ := t
      simp only at zd
      have hm : m ≤ 1048576 := hh.1
      have e0 : ((C : Int)).tmod 3 = (((C + 0) % 3 : Nat) : Int) := by rw [Int.tmod_eq_emod_of_nonneg (by omega)]; omega
      have e2 : ((C : Int) + 1 + 1).tmod 3 = (((C + 2) % 3 : Nat) : Int) := by rw [Int.tmod_eq_emod_of_nonneg (by omega)]; omega
      have HBY : Hid (∀ W, (∀ x N, rowF wr x N → rowF W x N) → Calls Tryz.prog 99 #[.slice a m cc, .int .i64 ((C : Int) + 1 + 1 + 1 + 1)] W fun o w' => o = .returned (.int .i64 ((C + 4 + m : Nat) : Int)) ∧ (∀ b, a = some ⟨b, 0, none⟩ → mkB w' b m (C + 4)) ∧ (∀ x N, rowF W x N → rowF w' x N) ∧ (∀ x, a ≠ some ⟨x, 0, none⟩ → w'.heap[x]? = W.heap[x]?) ∧ w'.heap.size = W.heap.size ∧ Below B W w') := fun W hW => by
        have := markHd B W g a m cc (C + 4) (hh.up hW) HAB.out (by omega)
        have e : (((C + 4 : Nat)) : Int) = (C : Int) + 1 + 1 + 1 + 1 := by omega
        rw [e] at this
        exact this
      have HH : Hid (hd wr g (a, m, cc)) := hh
      clear hh
      go_wp2_with (first | (go_at_call 99; refine (HBY.out _ (fun x N h => h.setRow g (m5w C) wr (k * 5))).mono ?_; rintro o w5 ⟨rfl, q1, q2, q3, q4, q5⟩; have HQ : Hid ((∀ b, a = some ⟨b, 0, none⟩ → mkB w5 b m (C + 4)) ∧ (∀ x N, rowF (setRow wr g (k * 5) (m5w C)) x N → rowF w5 x N) ∧ (∀ x, a ≠ some ⟨x, 0, none⟩ → w5.heap[x]? = (setRow wr g (k * 5) (m5w C)).heap[x]?) ∧ w5.heap.size = (setRow wr g (k * 5) (m5w C)).heap.size ∧ Below B (setRow wr g (k * 5) (m5w C)) w5) := ⟨q1, q2, q3, q4, q5⟩; clear q1 q2 q3 q4 q5))
      obtain ⟨q1, q2, q3, q4, q5⟩ := HQ.out
      obtain ⟨r1, r0, r2, r3, r4, r5⟩ := HD.out
      have hT := HT.out
      have hC := HC.out
      have hl : (m5w C).length = 4 := rfl
      have hag : a ≠ some ⟨g, 0, none⟩ := by
        rcases HH.out.2.2 with ⟨e, _⟩ | ⟨b, e, hne, _⟩
        · intro h; rw [h] at e; cases e
        · intro h; rw [h] at e; cases e; exact hne rfl
      have hgb := q3 g hag
      have hrf : ∀ x N, rowF wr x N → rowF w5 x N := fun x N h => q2 x N (h.setRow g (m5w C) wr (k * 5))
      refine ⟨⟨k + 1, by omega, by go_num, by rw [HCN.out]; congr 1, fun hd j hj => ?_, ⟨hrf _ _ r0.row, fun j hj => ⟨cell_up ((setRow_other g (m5w C) wr (k * 5) (j * 5 + 4) (by omega)).trans (r0.dat j hj).1) hgb, (r0.dat j hj).2.up hrf⟩⟩, fun x N h => hrf x N (r2 x N h), fun x hx hj => (q3 x (by have := hj k hlt; rw [hT] at this; exact this)).trans ((setRow_block g x hx (m5w C) wr (k * 5)).trans (r3 x hx hj)), by rw [q4, setRow_size]; exact r4, (setRow_below g B hB w (m5w C) wr (k * 5) r5).trans q5⟩, by simp [intOf]; omega⟩
      by_cases e : j = k
      · subst e
        rw [hT, hC]
        exact ⟨fun t ht => cell_up (setRow_at g (m5w C) wr (j * 5) t (by omega) (r0.row (j * 5 + t) (by omega)).1) hgb, fun b hb => q1 b hb⟩
      · have hj' : j < k := by omega
        have H0 := r1 hd j hj'
        refine ⟨fun t ht => cell_up ((setRow_other g (m5w C) wr (k * 5) (j * 5 + t) (by omega)).trans (H0.row t ht)) hgb, fun b hb t ht => cell_up (H0.dat b hb t ht) ?_⟩
        have hbg : b ≠ g := by
          rcases (r0.dat j (by omega)).2.2.2 with ⟨e, _⟩ | ⟨b', e, hne, _⟩
          · rw [hb] at e; cases e
          · rw [hb] at e; cases e; exact hne
        have hba : a ≠ some ⟨b, 0, none⟩ := by
          have := hd j k hj' hlt b hb
          rw [hT] at this
          exact this
        exact (q3 b hba).trans (setRow_block g b hbg (m5w C) wr (k * 5))
    · have hkn : k = n := by omega
      subst hkn
      go_wp2
      go_ret
      exact ⟨rfl, hdone, hsh, hrow, hoth, hsz, hb⟩
end Go.Proofs.YtaamahohdnbpiaaGreat
namespace Go.Proofs.YtaamahohdnbpiaaGreat
open Go.Shelf Go.RowKit
set_option linter.unusedVariables false
theorem ownsRow_split {W : World} {B : Nat} {T : TypeId} {sz : Nat} {v : Value} {n : Nat} {xs : List Value} (ho : W.ownsRow B T sz v n xs) : (v = .slice none 0 0 ∧ n = 0) ∨ ∃ g cap, v = .slice (some ⟨g, 0, none⟩) n cap ∧ B ≤ g ∧ g < W.heap.size ∧ n ≤ cap ∧ rowF W g (n * sz) ∧ W.rangeAt g 0 xs := by
  have ho' := ho
  rcases ho.2 with ⟨e, e2⟩ | ⟨g', cap', cur, hv', hb, hg, hcp, hmx, hsz, htk⟩
  · exact Or.inl ⟨e, by simpa using e2⟩
  · right
    have hl := ho.1
    have hcur : ∀ t, t < n * sz → cur[t]? = xs[t]? := by
      intro t ht
      rw [← htk, List.getElem?_take_of_lt ht, Array.getElem?_toList]
    have hcell : ∀ t, t < n * sz → W.cell? ⟨g', t, none⟩ = xs[t]? := by
      intro t ht
      rw [← hcur t ht]
      simp [World.cell?, hg]
    refine ⟨g', cap', hv', hb, lt_of_some hg, hcp, fun t ht => ⟨?_, ?_⟩, fun j u hu => ?_⟩
    · rw [hcell t ht]
      exact ⟨_, List.getElem?_eq_getElem (by omega)⟩
    · subst hv'
      exact World.ownsRow.frozenAt ho' t
    · have hj : j < xs.length := (List.getElem?_eq_some_iff.mp hu).1
      rw [Nat.zero_add, hcell j (by omega)]
      exact hu
theorem rangeAt.up {W W' : World} {g o : Nat} {l : List Value} (h : W.rangeAt g o l) (he : W'.heap[g]? = W.heap[g]?) : W'.rangeAt g o l := fun j v hv => cell_up (h j v hv) he
/-- a row of records of one's own: the bytes of the first k are its own too, from U on; the others' lie in b0 -/
structure dr8 (b0 : World) (U g n : Nat) (bx : List R8) (hs : Nat → Hd) (k : Nat) (W : World) : Prop where
  len : n = bx.length
  row : rowF W g (n * 8)
  rng : ∀ j (h : j < bx.length), W.rangeAt g (j * 8) (x8 (bx[j], hs j))
  old : ∀ j (h : j < bx.length), k ≤ j → isBytes b0 (hs j).1 (hs j).2.1 (hs j).2.2 bx[j].l
  new : ∀ j (h : j < bx.length), j < k → isBytes W (hs j).1 (hs j).2.1 (hs j).2.2 bx[j].l ∧ (((hs j).1 = none ∧ (hs j).2.1 = 0) ∨ ∃ b, (hs j).1 = some ⟨b, 0, none⟩ ∧ U ≤ b ∧ b < W.heap.size ∧ rowF W b (hs j).2.1)
  dst : dst hs k
  lo : b0.heap.size ≤ g
  hi : g < W.heap.size
  bel : Below b0.heap.size b0 W
  sm : ∀ j (h : j < bx.length), bx[j].l.length ≤ 1048576
theorem dr8.same {b0 W W' : World} {U g n : Nat} {bx : List R8} {hs : Nat → Hd} {k : Nat} (h : dr8 b0 U g n bx hs k W) (he : ∀ x, x = g ∨ U ≤ x → x < W.heap.size → W'.heap[x]? = W.heap[x]?) (hz : W.heap.size ≤ W'.heap.size) (hb : Below b0.heap.size b0 W') : dr8 b0 U g n bx hs k W' :=
  ⟨h.len, h.row.up (he g (Or.inl rfl) h.hi), fun j hj => (rangeAt.up (h.rng j hj) (he g (Or.inl rfl) h.hi)), h.old, fun j hj hk => by
    obtain ⟨h1, h2⟩ := h.new j hj hk
    rcases h2 with ⟨e1, e2⟩ | ⟨b, e1, e2, e3, e4⟩
    · refine ⟨⟨h1.len, h1.cap, h1.small, fun hne => ?_⟩, Or.inl ⟨e1, e2⟩⟩
      exact absurd (List.length_pos_iff.2 hne) (by have := h1.len; omega)
    · rw [e1] at h1 ⊢
      exact ⟨h1.other (he b (Or.inr e2) e3), Or.inr ⟨b, rfl, e2, Nat.lt_of_lt_of_le e3 hz, e4.up (he b (Or.inr e2) e3)⟩⟩, h.dst, h.lo, Nat.lt_of_lt_of_le h.hi hz, hb, h.sm⟩
theorem dr8.below {b0 W W' : World} {U g n : Nat} {bx : List R8} {hs : Nat → Hd} {k : Nat} (h : dr8 b0 U g n bx hs k W) (hb : Below W.heap.size W W') : dr8 b0 U g n bx hs k W' :=
  h.same (fun x _ hx => hb.block x hx) hb.size (h.bel.trans (hb.mono h.bel.size))
theorem dr8.start {b0 W : World} {B U g n : Nat} {L : List R8} (bs : List X8) (hm : bs.map (·.1) = L) (hby : ∀ j (hj : j < bs.length), isBytes b0 bs[j].2.1 bs[j].2.2.1 bs[j].2.2.2 bs[j].1.l) (hn : n = L.length) (hr : rowF W g (n * 8)) (hg : W.rangeAt g 0 (c8 bs)) (hlo : b0.heap.size ≤ g) (hhi : g < W.heap.size) (hb : Below b0.heap.size b0 W) (hsm : ∀ j (h : j < L.length), L[j].l.length ≤ 1048576) : dr8 b0 U g n L (fun j => (bs.getD j (⟨0, 0, 0, false, 0, false, 0, []⟩, none, 0, 0)).2) 0 W := by
  subst hm
  have hl : (bs.map (·.1)).length = bs.length := by simp
  refine ⟨hn, hr, fun j hj => ?_, fun j hj _ => ?_, fun j hj hk => absurd hk (Nat.not_lt_zero _), fun i j _ hj => absurd hj (Nat.not_lt_zero _), hlo, hhi, hb, hsm⟩
  · have hj' : j < bs.length := by omega
    have e : ((bs.map (·.1))[j], (bs.getD j (⟨0, 0, 0, false, 0, false, 0, []⟩, none, 0, 0)).2) = bs[j] := by simp [List.getD, hj']
    rw [e]
    intro t u hu
    have ht : t < 8 := by have := (List.getElem?_eq_some_iff.mp hu).1; simpa [x8] using this
    rw [← c8_at bs j hj' t ht] at hu
    have := hg _ _ hu
    rw [Nat.zero_add] at this
    exact this
  · have hj' : j < bs.length := by omega
    have := hby j hj'
    simpa [List.getD, hj'] using this
theorem dr8.at_ {b0 W : World} {U g n : Nat} {bx : List R8} {hs : Nat → Hd} {k : Nat} (h : dr8 b0 U g n bx hs k W) (j : Nat) (hj : j < bx.length) : at8 W g (j * 8) bx[j] (hs j).1 (hs j).2.1 (hs j).2.2 := by
  have hr := h.rng j hj
  refine ⟨hr 0 _ rfl, hr 1 _ rfl, hr 2 _ rfl, hr 3 _ rfl, hr 4 _ rfl, hr 5 _ rfl, hr 6 _ rfl, hr 7 _ rfl, ?_⟩
  by_cases hk : j < k
  · exact (h.new j hj hk).1
  · exact (h.old j hj (by omega)).below h.bel
theorem dr8.is {b0 W : World} {U g n : Nat} {bx : List R8} {hs : Nat → Hd} {k cap : Nat} (h : dr8 b0 U g n bx hs k W) (hc : n ≤ cap) : isR8s W (some ⟨g, 0, none⟩) n cap bx :=
  ⟨h.len, hc, fun _ => ⟨g, 0, rfl, fun j hj => ⟨_, _, _, by rw [Nat.zero_add]; exact h.at_ j hj⟩⟩⟩
theorem clone8_dr (b0 w : World) (g off n cap : Nat) (bx : List R8) (h : isR8s b0 (some ⟨g, off, none⟩) n cap bx) (hb0 : Below b0.heap.size b0 w) (hn : n ≤ 1048576) (hsm : ∀ j (h : j < bx.length), bx[j].l.length ≤ 1048576) :
    Calls Tryz.prog 160 #[.slice (some ⟨g, off, none⟩) n cap] w fun e w' => ∃ g' cap' hs, e = .returned (.slice (some ⟨g', 0, none⟩) n cap') ∧ w.heap.size ≤ g' ∧ n ≤ cap' ∧ dr8 b0 0 g' n bx hs 0 w' ∧ Below w.heap.size w w' := by
  obtain ⟨bs, hm, hs⟩ := rows8 h
  have hlen : n = bs.length := by rw [h.len, ← hm]; simp
  obtain ⟨i0, hi, hz0, hz1, hz2⟩ := info_parts Tryz.info97
  refine (AnyE.slices_Clone Tryz.laysE160 i0 _ 8 72 hi hz0 hz1 hz2 rfl (by omega) Tryz.sizeOf97 g off n cap (c8 bs) w (by rw [c8_len, hlen]) (by unfold maxLen; omega) (by omega) (fun j u hj => c8_cell (fun j hj => (hs j hj).below hb0) j u hj) (c8_one bs)).mono ?_
  rintro e w' ⟨v', rfl, ho, hv, hbw⟩
  rcases ownsRow_split ho with ⟨e, _⟩ | ⟨g', cap', rfl, hb, hlt, hcp, hrf, hrg⟩
  · exact absurd e hv
  · exact ⟨g', cap', _, rfl, hb, hcp, dr8.start (B := 0) bs hm (fun j hj => (hs j hj).dat) h.len hrf hrg (Nat.le_trans hb0.size hb) hlt (hb0.trans (hbw.mono hb0.size)) hsm, hbw⟩
/-- a row whose bytes lie in b0 hangs on its block alone -/
theorem dr8.at0 {b0 W W' : World} {U g n : Nat} {bx : List R8} {hs : Nat → Hd} (h : dr8 b0 U g n bx hs 0 W) (he : W'.heap[g]? = W.heap[g]?) (hb : Below b0.heap.size b0 W') : dr8 b0 U g n bx hs 0 W' := by
  refine ⟨h.len, h.row.up he, fun j hj => rangeAt.up (h.rng j hj) he, h.old, fun j hj hk => absurd hk (Nat.not_lt_zero _), h.dst, h.lo, ?_, hb, h.sm⟩
  have h1 := h.hi
  rw [Array.getElem?_eq_getElem h1] at he
  exact lt_of_some he
end Go.Proofs.YtaamahohdnbpiaaGreat
namespace Go.Proofs.YtaamahohdnbpiaaGreat
open Go.RowKit
theorem blk.set {w : World} {b : Nat} {l : List Value} {T : TypeId} (h : blk w b l T) (o : Nat) (v : Value) : blk (w.setCell ⟨b, o, none⟩ v) b (l.set o v) T := by
  have := heap_setCell_same w b o _ _ v h
  simpa [blk] using this
theorem blk.setOther {w : World} {b b' : Nat} {l : List Value} {T : TypeId} (h : blk w b l T) (hb : b ≠ b') (o : Nat) (v : Value) : blk (w.setCell ⟨b', o, none⟩ v) b l T := h.other hb o [v]
abbrev z10 : List Value := [.int .i64 0, .int .i64 0, .int .i64 0, .int .i64 0, .slice none 0 0, .slice none 0 0, .slice none 0 0, .slice none 0 0, .int .i64 0, .int .i64 0]
/-- the variables of l3copy: h, the result, g -/
structure gS (w : World) (hv gv : List Value) (W : World) : Prop where
  p : blk W w.heap.size hv 35
  r : blk W (w.heap.size + 1) z10 35
  q : blk W (w.heap.size + 1 + 1) gv 35
  b : Below w.heap.size w W
theorem gS.z {w W : World} {hv gv : List Value} (h : gS w hv gv W) : w.heap.size + 3 ≤ W.heap.size := h.q.lt
theorem gS.below {w W W' : World} {hv gv : List Value} (h : gS w hv gv W) (hb : Below W.heap.size W W') : gS w hv gv W' := ⟨h.p.below hb, h.r.below hb, h.q.below hb, h.b.trans (hb.mono h.b.size)⟩
theorem gS.grown {w W W' : World} {hv gv : List Value} {g : Nat} (h : gS w hv gv W) (hg : W.grownBy W' (some g)) (h3 : w.heap.size + 3 ≤ g) : gS w hv gv W' := by
  have hz := h.z
  exact ⟨h.p.kept (hg.block _ (by omega) (by intro e; cases e; omega)), h.r.kept (hg.block _ (by omega) (by intro e; cases e; omega)), h.q.kept (hg.block _ (by omega) (by intro e; cases e; omega)), h.b.grown hg (by omega) (by intro k e; cases e; omega)⟩
theorem gS.set {w W : World} {hv gv : List Value} (h : gS w hv gv W) (o : Nat) (v : Value) : gS w hv (gv.set o v) (W.setCell ⟨w.heap.size + 1 + 1, o, none⟩ v) :=
  ⟨h.p.setOther (by omega) _ _, h.r.setOther (by omega) _ _, h.q.set _ _, h.b.setCell (by show _ ≤ _ + _ + _; omega) _⟩
/-- what stays in the draws of l3copy's loops -/
structure hS (w : World) (hv : List Value) (W : World) : Prop where
  p : blk W w.heap.size hv 35
  b : Below w.heap.size w W
theorem gS.hs {w W : World} {hv gv : List Value} (h : gS w hv gv W) : hS w hv W := ⟨h.p, h.b⟩
theorem sz98 : (Tryz.prog.info? 85).map (·.size) = some 3 := by kernel_rfl
def rc3 : R3 → List Value := fun b => [.bool b.e, .int .u32 b.m, .int .u32 b.k]
theorem c3_rc (bs : List R3) : c3 bs = bs.flatMap rc3 := rfl
theorem c3_snoc (bs : List R3) (k : Nat) (h : k < bs.length) : c3 (bs.take k) ++ rc3 bs[k] = c3 (bs.take (k + 1)) := by
  rw [c3_rc, c3_rc, List.take_succ_eq_append_getElem h, List.flatMap_append, List.flatMap_cons, List.flatMap_nil, List.append_nil]
theorem take5 {bs : List R5} {rs : List (R5 × Nat × Nat)} {k : Nat} (h : rs.map (·.1) = bs.take k) (hk : k < bs.length) (p : R5 × Nat × Nat) (hp : p.1 = bs[k]) : (rs ++ [p]).map (·.1) = bs.take (k + 1) := by
  rw [List.map_append, h, List.take_succ_eq_append_getElem hk, List.map_cons, List.map_nil, hp]
theorem take5_len {bs : List R5} {rs : List (R5 × Nat × Nat)} {k : Nat} (h : rs.map (·.1) = bs.take k) (hk : k ≤ bs.length) : rs.length = k := by
  have := congrArg List.length h
  rw [List.length_map, List.length_take] at this
  omega
theorem one5L (e : Bool) (i : Int) (r : Bool) (d : Int) (a : Option Addr) (n c : Nat) : ∀ u ∈ [Value.bool e, .int .u32 i, .bool r, .int .i64 d, .slice a n c], u.oneCell' = true := by
  intro u hu
  simp only [List.mem_cons, List.not_mem_nil, or_false] at hu
  rcases hu with rfl | rfl | rfl | rfl | rfl <;> rfl
/-- the blocks from B on that W has are the same in W' -/
structure Kp (B : Nat) (W W' : World) : Prop where
  same : ∀ b, B ≤ b → b < W.heap.size → W'.heap[b]? = W.heap[b]?
  size : W.heap.size ≤ W'.heap.size
theorem Kp.refl (B : Nat) (W : World) : Kp B W W := ⟨fun _ _ _ => rfl, Nat.le_refl _⟩
theorem Kp.below {B : Nat} {W W' W'' : World} (h : Kp B W W') (hb : Below W'.heap.size W' W'') : Kp B W W'' := ⟨fun b h1 h2 => (hb.block b (Nat.lt_of_lt_of_le h2 h.size)).trans (h.same b h1 h2), Nat.le_trans h.size hb.size⟩
theorem Kp.grown {B : Nat} {W W' W'' : World} {g : Nat} (h : Kp B W W') (hg : W'.grownBy W'' (some g)) (hw : W.heap.size ≤ g) : Kp B W W'' := ⟨fun b h1 h2 => (hg.block b (Nat.lt_of_lt_of_le h2 h.size) (by intro e; cases e; omega)).trans (h.same b h1 h2), Nat.le_trans h.size hg.size⟩
theorem Kp.set {B : Nat} {W W' : World} (h : Kp B W W') (b o : Nat) (hb : b < B) (v : Value) : Kp B W (W'.setCell ⟨b, o, none⟩ v) := ⟨fun k h1 h2 => (heap_setCell_other _ _ _ _ (by show k ≠ b; omega)).trans (h.same k h1 h2), by simpa using h.size⟩
theorem St.kp {B : Nat} {W W' : World} {p : World → Prop} (h : St B W p) (hk : Kp B W W') : St B W' p := fun V hV => h V fun k h1 h2 => (hV k h1 (Nat.lt_of_lt_of_le h2 hk.size)).trans (hk.same k h1 h2)
theorem range_below {w W : World} {g o : Nat} {l : List Value} (h : w.rangeAt g o l) (hb : Below w.heap.size w W) (hg : g < w.heap.size) : W.rangeAt g o l := fun j v hv => (hb.cell (by exact hg)).trans (h j v hv)
theorem one3L (e : Bool) (m k : Int) : ∀ u ∈ [Value.bool e, .int .u32 m, .int .u32 k], u.oneCell' = true := by
  intro u hu
  simp only [List.mem_cons, List.not_mem_nil, or_false] at hu
  rcases hu with rfl | rfl | rfl <;> rfl
end Go.Proofs.YtaamahohdnbpiaaGreat
