import Derived.Test.YtaamahohdnbpiaaGreatHL
import Derived.Test.YtaamahohdnbpiaaGreatGB
namespace Go.Proofs.YtaamahohdnbpiaaGreat
open Go.RowKit
set_option linter.unusedVariables false
theorem rowF.setCell {w : World} {x N : Nat} (h : rowF w x N) (p : Addr) (v : Value) : rowF (w.setCell p v) x N := fun t ht => by
  obtain ⟨⟨u, hu⟩, hf⟩ := h t ht
  refine ⟨?_, by rw [World.frozen?_setCell]; exact hf⟩
  by_cases e : (⟨x, t, none⟩ : Addr) = p
  · subst e
    exact ⟨v, World.cell?_setCell_same _ _ _ hu⟩
  · exact ⟨u, by rw [World.cell?_setCell_other _ _ _ _ (fun hh => e hh.symm)]; exact hu⟩
theorem rowF.setRow {x N : Nat} (g : Nat) : ∀ (vs : List Value) (w : World) (p : Nat), rowF w x N → rowF (setRow w g p vs) x N := by
  intro vs
  induction vs with
  | nil => intro w p h; exact h
  | cons v vs ih => intro w p h; exact ih _ (p + 1) (h.setCell _ v)
theorem rowF.le {w : World} {x N M : Nat} (h : rowF w x N) (hM : M ≤ N) : rowF w x M := fun t ht => h t (by omega)
/-- marks of bytes from C on -/
def mkB (W : World) (b m C : Nat) : Prop := ∀ t, t < m → W.cell? ⟨b, t, none⟩ = some (.int .u8 (((C + t) % 256 : Nat) : Int))
set_option maxHeartbeats 2000000 in
theorem markByteS_any (w : World) (b m cap C : Nat) (hr : rowF w b m) (hcp : m ≤ cap) (hm : m ≤ 1048576) (hC : C ≤ 10000000000000000) :
    Calls Tryz.prog 99 #[.slice (some ⟨b, 0, none⟩) m cap, .int .i64 (C : Int)] w fun o w' => o = .returned (.int .i64 ((C + m : Nat) : Int)) ∧ mkB w' b m C ∧ (∀ x N, rowF w x N → rowF w' x N) ∧ (∀ x, x ≠ b → w'.heap[x]? = w.heap[x]?) ∧ w'.heap.size = w.heap.size ∧ Below b w w' := by
  have HR : Hid (rowF w b m) := hr
  clear hr
  go_enter Tryz.func99, Tryz.ntmps99
  go_wp2
  go_loopw [1, 5] (fun kk i wr => ∃ k : Nat, k ≤ m ∧ i = .int .i64 (k : Int) ∧ kk = .int .i64 ((C + k : Nat) : Int) ∧ mkB wr b k C ∧ (∀ x N, rowF w x N → rowF wr x N) ∧ (∀ x, x ≠ b → wr.heap[x]? = w.heap[x]?) ∧ wr.heap.size = w.heap.size ∧ Below b w wr) (fun _ i _ => m - (intOf i).toNat)
  case atStart => exact ⟨0, Nat.zero_le _, rfl, by go_num, fun j hj => absurd hj (Nat.not_lt_zero _), fun _ _ h => h, fun _ _ => rfl, rfl, Below.refl _ _⟩
  case round =>
    obtain ⟨k, hk, rfl, rfl, hdone, hrow, hoth, hsz, hb⟩ := hrel
    by_cases hlt : k < m
    · obtain ⟨⟨v0, z0⟩, f0⟩ := (hrow b m HR.out) k hlt
      have HD : Hid (mkB wr b k C ∧ (∀ x N, rowF w x N → rowF wr x N) ∧ (∀ x, x ≠ b → wr.heap[x]? = w.heap[x]?) ∧ wr.heap.size = w.heap.size ∧ Below b w wr) := ⟨hdone, hrow, hoth, hsz, hb⟩
      clear hdone hrow hoth hsz hb
      generalize hD : C + k = D at *
      have HD2 : Hid (C + k = D) := hD
      have hD1 : D ≤ 20000000000000000 := by omega
      clear hD
      go_wp2
      obtain ⟨r1, r2, r3, r4, r5⟩ := HD.out
      have hD := HD2.out
      refine ⟨⟨k + 1, by omega, by go_num, by rw [show C + (k + 1) = D + 1 by omega]; go_num, fun t ht => ?_, fun x N h => (r2 x N h).setCell _ _, fun x hx => (heap_setCell_other _ _ x _ hx).trans (r3 x hx), by simpa using r4, r5.setCell (Nat.le_refl _) _⟩, by simp [intOf]; omega⟩
      by_cases e : t = k
      · subst e
        rw [World.cell?_setCell_same _ _ _ z0, hD]
        congr 2
      · rw [World.cell?_setCell_other _ _ _ _ (by intro hh; exact e (by simpa using hh.symm))]
        exact r1 t (by omega)
    · have hkn : k = m := by omega
      subst hkn
      go_wp2
      go_ret
      exact ⟨rfl, hdone, hrow, hoth, hsz, hb⟩
theorem markByte_none (w : World) (cap C : Nat) : Calls Tryz.prog 99 #[.slice none 0 cap, .int .i64 (C : Int)] w fun o w' => o = .returned (.int .i64 (C : Int)) ∧ w' = w := by
  go_enter Tryz.func99, Tryz.ntmps99
  go_wp2
  go_loopw [1, 5] (fun kk i wr => i = .int .i64 0 ∧ kk = .int .i64 (C : Int) ∧ wr = w) (fun _ _ _ => 0)
  case atStart => exact ⟨rfl, rfl, rfl⟩
  case round =>
    obtain ⟨rfl, rfl, rfl⟩ := hrel
    go_wp2
    go_ret
    exact ⟨rfl, rfl⟩
theorem heldByte_none (w : World) (cap C : Nat) : Calls Tryz.prog 103 #[.slice none 0 cap, .int .i64 (C : Int)] w fun o w' => o = .returned (.int .i64 (C : Int)) ∧ w' = w := by
  go_enter Tryz.func103, Tryz.ntmps103
  go_wp2
  go_loopw [1, 5] (fun kk i wr => i = .int .i64 0 ∧ kk = .int .i64 (C : Int) ∧ wr = w) (fun _ _ _ => 0)
  case atStart => exact ⟨rfl, rfl, rfl⟩
  case round =>
    obtain ⟨rfl, rfl, rfl⟩ := hrel
    go_wp2
    go_ret
    exact ⟨rfl, rfl⟩
set_option maxHeartbeats 2000000 in
theorem heldByteS_any (w : World) (b m cap C : Nat) (hr : mkB w b m C) (hcp : m ≤ cap) (hm : m ≤ 1048576) (hC : C ≤ 10000000000000000) :
    Calls Tryz.prog 103 #[.slice (some ⟨b, 0, none⟩) m cap, .int .i64 (C : Int)] w fun o w' => o = .returned (.int .i64 ((C + m : Nat) : Int)) ∧ w' = w := by
  have HR : Hid (mkB w b m C) := hr
  clear hr
  go_enter Tryz.func103, Tryz.ntmps103
  go_wp2
  go_loopw [1, 5] (fun kk i wr => ∃ k : Nat, k ≤ m ∧ i = .int .i64 (k : Int) ∧ kk = .int .i64 ((C + k : Nat) : Int) ∧ wr = w) (fun _ i _ => m - (intOf i).toNat)
  case atStart => exact ⟨0, Nat.zero_le _, rfl, by go_num, rfl⟩
  case round =>
    obtain ⟨k, hk, rfl, rfl, rfl⟩ := hrel
    by_cases hlt : k < m
    · have z0 := HR.out k hlt
      generalize hD : C + k = D at *
      have HD2 : Hid (C + k = D) := hD
      have hD1 : D ≤ 20000000000000000 := by omega
      clear hD
      go_wp2
      refine ⟨⟨k + 1, by omega, by go_num, by rw [show C + (k + 1) = D + 1 by have := HD2.out; omega]; go_num, trivial⟩, by simp [intOf]; omega⟩
    · have hkn : k = m := by omega
      subst hkn
      go_wp2
      go_ret
      exact ⟨rfl, rfl⟩
end Go.Proofs.YtaamahohdnbpiaaGreat
namespace Go.Proofs.YtaamahohdnbpiaaGreat
open Go.RowKit
set_option linter.unusedVariables false
abbrev Hd := Option Addr × Nat × Nat
/-- the bytes of a record: none, or in a block other than g -/
def hd (W : World) (g : Nat) (h : Hd) : Prop := h.2.1 ≤ 1048576 ∧ h.2.1 ≤ h.2.2 ∧ ((h.1 = none ∧ h.2.1 = 0) ∨ ∃ b, h.1 = some ⟨b, 0, none⟩ ∧ b ≠ g ∧ rowF W b h.2.1)
theorem hd.up {W W' : World} {g : Nat} {h : Hd} (H : hd W g h) (hr : ∀ x N, rowF W x N → rowF W' x N) : hd W' g h := by
  obtain ⟨h1, h2, h3⟩ := H
  refine ⟨h1, h2, ?_⟩
  rcases h3 with h3 | ⟨b, e, hn, hf⟩
  · exact Or.inl h3
  · exact Or.inr ⟨b, e, hn, hr _ _ hf⟩
/-- no two of the rows of bytes are one -/
def dst (hs : Nat → Hd) (n : Nat) : Prop := ∀ i j, i < j → j < n → ∀ b, (hs i).1 = some ⟨b, 0, none⟩ → (hs j).1 ≠ some ⟨b, 0, none⟩
/-- no row of bytes lies below B -/
def abv (B : Nat) (hs : Nat → Hd) (n : Nat) : Prop := ∀ j, j < n → ∀ b, (hs j).1 = some ⟨b, 0, none⟩ → B ≤ b
theorem markHd (B : Nat) (W : World) (g : Nat) (a : Option Addr) (m cc C : Nat) (H : hd W g (a, m, cc)) (hB : ∀ b, a = some ⟨b, 0, none⟩ → B ≤ b) (hC : C ≤ 10000000000000000) :
    Calls Tryz.prog 99 #[.slice a m cc, .int .i64 (C : Int)] W fun o w' => o = .returned (.int .i64 ((C + m : Nat) : Int)) ∧ (∀ b, a = some ⟨b, 0, none⟩ → mkB w' b m C) ∧ (∀ x N, rowF W x N → rowF w' x N) ∧ (∀ x, a ≠ some ⟨x, 0, none⟩ → w'.heap[x]? = W.heap[x]?) ∧ w'.heap.size = W.heap.size ∧ Below B W w' := by
  obtain ⟨h1, h2, ⟨e, hm⟩ | ⟨b, e, hn, hf⟩⟩ := H
  · simp only at e hm
    subst e
    subst hm
    refine (markByte_none W cc C).mono ?_
    rintro o w' ⟨rfl, rfl⟩
    exact ⟨rfl, fun b hb => absurd hb (by simp), fun _ _ h => h, fun _ _ => rfl, rfl, Below.refl _ _⟩
  · simp only at e hf h1 h2
    subst e
    refine (markByteS_any W b m cc C hf h2 h1 hC).mono ?_
    rintro o w' ⟨rfl, q1, q2, q3, q4, q5⟩
    exact ⟨rfl, fun b' hb => by cases hb; exact q1, q2, fun x hx => q3 x (fun e => hx (by rw [e])), q4, q5.mono (hB b rfl)⟩
theorem heldHd (W : World) (g : Nat) (a : Option Addr) (m cc C : Nat) (H : hd W g (a, m, cc)) (hk : ∀ b, a = some ⟨b, 0, none⟩ → mkB W b m C) (hC : C ≤ 10000000000000000) :
    Calls Tryz.prog 103 #[.slice a m cc, .int .i64 (C : Int)] W fun o w' => o = .returned (.int .i64 ((C + m : Nat) : Int)) ∧ w' = W := by
  obtain ⟨h1, h2, ⟨e, hm⟩ | ⟨b, e, hn, hf⟩⟩ := H
  · simp only at e hm
    subst e
    subst hm
    exact (heldByte_none W cc C)
  · simp only at e hf h1 h2
    subst e
    exact heldByteS_any W b m cc C (hk b rfl) h2 h1 hC
/-- n records of 8 cells at g, their bytes as hs tells -/
structure sh8 (W : World) (g n : Nat) (hs : Nat → Hd) : Prop where
  row : rowF W g (n * 8)
  dat : ∀ j, j < n → W.cell? ⟨g, j * 8 + 7, none⟩ = some (.slice (hs j).1 (hs j).2.1 (hs j).2.2) ∧ hd W g (hs j)
/-- the number of marks behind j records -/
def cn8 (c : Nat) (hs : Nat → Hd) : Nat → Nat
  | 0 => c
  | j + 1 => cn8 c hs j + 7 + (hs j).2.1
theorem cn8_le (c n : Nat) (hs : Nat → Hd) (h : ∀ j, j < n → (hs j).2.1 ≤ 1048576) : ∀ j, j ≤ n → cn8 c hs j ≤ c + j * 1048583 := by
  intro j
  induction j with
  | zero => intro _; exact Nat.le_refl _
  | succ j ih =>
    intro hj
    have h1 := ih (by omega)
    have h2 := h j (by omega)
    simp only [cn8]
    omega
/-- the cells that the marks from C on make -/
def m8w (C : Nat) : List Value := [Value.int .i64 (C : Int), Value.int .i64 ((C : Int) + 1), Value.int .i64 ((C : Int) + 1 + 1), Value.bool ((C : Int) % 3 == 0), Value.int .u32 (((C : Int) + 1 + 1 + 1 + 1) % 4294967296), Value.bool (((C : Int) + 5) % 3 == 0), Value.int .i64 ((C : Int) + 1 + 1 + 1 + 1 + 1 + 1)]
/-- a record marked from C on -/
structure mk8 (W : World) (g o C : Nat) (h : Hd) : Prop where
  row : ∀ t (ht : t < 7), W.cell? ⟨g, o + t, none⟩ = some ((m8w C)[t]'(by simpa [m8w] using ht))
  dat : ∀ b, h.1 = some ⟨b, 0, none⟩ → mkB W b h.2.1 (C + 7)
theorem mk8.up {W W' : World} {g o C : Nat} {h : Hd} (H : mk8 W g o C h) (hg : W'.heap[g]? = W.heap[g]?) (hb : ∀ b, h.1 = some ⟨b, 0, none⟩ → W'.heap[b]? = W.heap[b]?) : mk8 W' g o C h :=
  ⟨fun t ht => cell_up (H.row t ht) hg, fun b e t ht => cell_up (H.dat b e t ht) (hb b e)⟩
theorem sh8.up {W W' : World} {g n : Nat} {hs : Nat → Hd} (H : sh8 W g n hs) (hg : W'.heap[g]? = W.heap[g]?) (hr : ∀ x N, rowF W x N → rowF W' x N) : sh8 W' g n hs :=
  ⟨H.row.up hg, fun j hj => ⟨cell_up (H.dat j hj).1 hg, (H.dat j hj).2.up hr⟩⟩
/-- n records of 5 cells at g, their bytes as hs tells -/
structure sh5 (W : World) (g n : Nat) (hs : Nat → Hd) : Prop where
  row : rowF W g (n * 5)
  dat : ∀ j, j < n → W.cell? ⟨g, j * 5 + 4, none⟩ = some (.slice (hs j).1 (hs j).2.1 (hs j).2.2) ∧ hd W g (hs j)
/-- the number of marks behind j records -/
def cn5 (c : Nat) (hs : Nat → Hd) : Nat → Nat
  | 0 => c
  | j + 1 => cn5 c hs j + 4 + (hs j).2.1
theorem cn5_le (c n : Nat) (hs : Nat → Hd) (h : ∀ j, j < n → (hs j).2.1 ≤ 1048576) : ∀ j, j ≤ n → cn5 c hs j ≤ c + j * 1048583 := by
  intro j
  induction j with
  | zero => intro _; exact Nat.le_refl _
  | succ j ih =>
    intro hj
    have h1 := ih (by omega)
    have h2 := h j (by omega)
    simp only [cn5]
    omega
/-- the cells that the marks from C on make -/
def m5w (C : Nat) : List Value := [Value.bool ((C : Int) % 3 == 0), Value.int .u32 (((C : Int) + 1) % 4294967296), Value.bool (((C : Int) + 2) % 3 == 0), Value.int .i64 ((C : Int) + 1 + 1 + 1)]
/-- a record marked from C on -/
structure mk5 (W : World) (g o C : Nat) (h : Hd) : Prop where
  row : ∀ t (ht : t < 4), W.cell? ⟨g, o + t, none⟩ = some ((m5w C)[t]'(by simpa [m5w] using ht))
  dat : ∀ b, h.1 = some ⟨b, 0, none⟩ → mkB W b h.2.1 (C + 4)
theorem mk5.up {W W' : World} {g o C : Nat} {h : Hd} (H : mk5 W g o C h) (hg : W'.heap[g]? = W.heap[g]?) (hb : ∀ b, h.1 = some ⟨b, 0, none⟩ → W'.heap[b]? = W.heap[b]?) : mk5 W' g o C h :=
  ⟨fun t ht => cell_up (H.row t ht) hg, fun b e t ht => cell_up (H.dat b e t ht) (hb b e)⟩
theorem sh5.up {W W' : World} {g n : Nat} {hs : Nat → Hd} (H : sh5 W g n hs) (hg : W'.heap[g]? = W.heap[g]?) (hr : ∀ x N, rowF W x N → rowF W' x N) : sh5 W' g n hs :=
  ⟨H.row.up hg, fun j hj => ⟨cell_up (H.dat j hj).1 hg, (H.dat j hj).2.up hr⟩⟩
set_option maxHeartbeats 8000000 in
set_option maxRecDepth 20000 in
theorem markBoxS_gen (B : Nat) (w : World) (g n cap c : Nat) (hs : Nat → Hd) (h : sh8 w g n hs) (hcp : n ≤ cap) (hn : n ≤ 1048576) (hc : c ≤ 20000000000000) (hB : B ≤ g) (hB2 : abv B hs n) :
    Calls Tryz.prog 97 #[.slice (some ⟨g, 0, none⟩) n cap, .int .i64 (c : Int)] w fun o w' => o = .returned (.int .i64 (cn8 c hs n : Int)) ∧ (dst hs n → ∀ j, j < n → mk8 w' g (j * 8) (cn8 c hs j) (hs j)) ∧ sh8 w' g n hs ∧ (∀ x N, rowF w x N → rowF w' x N) ∧ (∀ x, x ≠ g → (∀ j, j < n → (hs j).1 ≠ some ⟨x, 0, none⟩) → w'.heap[x]? = w.heap[x]?) ∧ w'.heap.size = w.heap.size ∧ Below B w w' := by
  have HSH : Hid (sh8 w g n hs) := h
  have HB2 : Hid (abv B hs n) := hB2
  have HLE : Hid (∀ j, j ≤ n → cn8 c hs j ≤ c + j * 1048583) := cn8_le c n hs (fun j hj => (h.dat j hj).2.1)
  clear h hB2
  go_enter Tryz.func97, Tryz.ntmps97
  go_wp2
  go_loopw [1, 5] (fun kk i wr => ∃ k : Nat, k ≤ n ∧ i = .int .i64 (k : Int) ∧ kk = .int .i64 (cn8 c hs k : Int) ∧ (dst hs n → ∀ j, j < k → mk8 wr g (j * 8) (cn8 c hs j) (hs j)) ∧ sh8 wr g n hs ∧ (∀ x N, rowF w x N → rowF wr x N) ∧ (∀ x, x ≠ g → (∀ j, j < n → (hs j).1 ≠ some ⟨x, 0, none⟩) → wr.heap[x]? = w.heap[x]?) ∧ wr.heap.size = w.heap.size ∧ Below B w wr) (fun _ i _ => n - (intOf i).toNat)
  case atStart => exact ⟨0, Nat.zero_le _, rfl, rfl, fun _ j hj => absurd hj (Nat.not_lt_zero _), HSH.out, fun _ _ h => h, fun _ _ _ => rfl, rfl, Below.refl _ _⟩
  case round =>
    obtain ⟨k, hk, rfl, rfl, hdone, hsh, hrow, hoth, hsz, hb⟩ := hrel
    by_cases hlt : k < n
    · have hkn : k * 8 + 8 ≤ n * 8 := by omega
      obtain ⟨⟨v0, z0⟩, f0⟩ := hsh.row (k * 8) (by omega)
      obtain ⟨⟨v1, z1⟩, f1⟩ := hsh.row (k * 8 + 1) (by omega)
      obtain ⟨⟨v2, z2⟩, f2⟩ := hsh.row (k * 8 + 2) (by omega)
      obtain ⟨⟨v3, z3⟩, f3⟩ := hsh.row (k * 8 + 3) (by omega)
      obtain ⟨⟨v4, z4⟩, f4⟩ := hsh.row (k * 8 + 4) (by omega)
      obtain ⟨⟨v5, z5⟩, f5⟩ := hsh.row (k * 8 + 5) (by omega)
      obtain ⟨⟨v6, z6⟩, f6⟩ := hsh.row (k * 8 + 6) (by omega)
      obtain ⟨zd, hh⟩ := hsh.dat k hlt
      have HD : Hid ((dst hs n → ∀ j, j < k → mk8 wr g (j * 8) (cn8 c hs j) (hs j)) ∧ sh8 wr g n hs ∧ (∀ x N, rowF w x N → rowF wr x N) ∧ (∀ x, x ≠ g → (∀ j, j < n → (hs j).1 ≠ some ⟨x, 0, none⟩) → wr.heap[x]? = w.heap[x]?) ∧ wr.heap.size = w.heap.size ∧ Below B w wr) := ⟨hdone, hsh, hrow, hoth, hsz, hb⟩
      clear hdone hsh hrow hoth hsz hb
      have HCN : Hid (cn8 c hs (k + 1) = cn8 c hs k + 7 + (hs k).2.1) := rfl
      have hC1 : cn8 c hs k ≤ 30000000000000 := by have := HLE.out k hk; omega
      generalize hC : cn8 c hs k = C at *
      have HC : Hid (cn8 c hs k = C) := hC
      clear hC
      have HAB : Hid (∀ b, (hs k).1 = some ⟨b, 0, none⟩ → B ≤ b) := HB2.out k hlt
      obtain ⟨t, ht⟩ : ∃ t, hs k = t := ⟨_, rfl⟩
      have HT : Hid (hs k = t) := ht
      rw [ht] at zd hh HCN HAB
      clear ht
      obtain ⟨a, m, cc⟩ := t
      simp only at zd
      have hm : m ≤ 1048576 := hh.1
      have e3 : ((C : Int) + 1 + 1 + 1).tmod 3 = (((C + 3) % 3 : Nat) : Int) := by rw [Int.tmod_eq_emod_of_nonneg (by omega)]; omega
      have e5 : ((C : Int) + 1 + 1 + 1 + 1 + 1).tmod 3 = (((C + 5) % 3 : Nat) : Int) := by rw [Int.tmod_eq_emod_of_nonneg (by omega)]; omega
      have HBY : Hid (∀ W, (∀ x N, rowF wr x N → rowF W x N) → Calls Tryz.prog 99 #[.slice a m cc, .int .i64 ((C : Int) + 1 + 1 + 1 + 1 + 1 + 1 + 1)] W fun o w' => o = .returned (.int .i64 ((C + 7 + m : Nat) : Int)) ∧ (∀ b, a = some ⟨b, 0, none⟩ → mkB w' b m (C + 7)) ∧ (∀ x N, rowF W x N → rowF w' x N) ∧ (∀ x, a ≠ some ⟨x, 0, none⟩ → w'.heap[x]? = W.heap[x]?) ∧ w'.heap.size = W.heap.size ∧ Below B W w') := fun W hW => by
        have := markHd B W g a m cc (C + 7) (hh.up hW) HAB.out (by omega)
        have e : (((C + 7 : Nat)) : Int) = (C : Int) + 1 + 1 + 1 + 1 + 1 + 1 + 1 := by omega
        rw [e] at this
        exact this
      have HH : Hid (hd wr g (a, m, cc)) := hh
      clear hh
      go_wp2_with (first | (go_at_call 99; refine (HBY.out _ (fun x N h => h.setRow g (m8w C) wr (k * 8))).mono ?_; rintro o w5 ⟨rfl, q1, q2, q3, q4, q5⟩; have HQ : Hid ((∀ b, a = some ⟨b, 0, none⟩ → mkB w5 b m (C + 7)) ∧ (∀ x N, rowF (setRow wr g (k * 8) (m8w C)) x N → rowF w5 x N) ∧ (∀ x, a ≠ some ⟨x, 0, none⟩ → w5.heap[x]? = (setRow wr g (k * 8) (m8w C)).heap[x]?) ∧ w5.heap.size = (setRow wr g (k * 8) (m8w C)).heap.size ∧ Below B (setRow wr g (k * 8) (m8w C)) w5) := ⟨q1, q2, q3, q4, q5⟩; clear q1 q2 q3 q4 q5))
      obtain ⟨q1, q2, q3, q4, q5⟩ := HQ.out
      obtain ⟨r1, r0, r2, r3, r4, r5⟩ := HD.out
      have hT := HT.out
      have hC := HC.out
      have hl : (m8w C).length = 7 := rfl
      have hag : a ≠ some ⟨g, 0, none⟩ := by
        rcases HH.out.2.2 with ⟨e, _⟩ | ⟨b, e, hne, _⟩
        · intro h; rw [h] at e; cases e
        · intro h; rw [h] at e; cases e; exact hne rfl
      have hgb := q3 g hag
      have hrf : ∀ x N, rowF wr x N → rowF w5 x N := fun x N h => q2 x N (h.setRow g (m8w C) wr (k * 8))
      refine ⟨⟨k + 1, by omega, by go_num, by rw [HCN.out]; congr 1, fun hd j hj => ?_, ⟨hrf _ _ r0.row, fun j hj => ⟨cell_up ((setRow_other g (m8w C) wr (k * 8) (j * 8 + 7) (by omega)).trans (r0.dat j hj).1) hgb, (r0.dat j hj).2.up hrf⟩⟩, fun x N h => hrf x N (r2 x N h), fun x hx hj => (q3 x (by have := hj k hlt; rw [hT] at this; exact this)).trans ((setRow_block g x hx (m8w C) wr (k * 8)).trans (r3 x hx hj)), by rw [q4, setRow_size]; exact r4, (setRow_below g B hB w (m8w C) wr (k * 8) r5).trans q5⟩, by simp [intOf]; omega⟩
      by_cases e : j = k
      · subst e
        rw [hT, hC]
        exact ⟨fun t ht => cell_up (setRow_at g (m8w C) wr (j * 8) t (by omega) (r0.row (j * 8 + t) (by omega)).1) hgb, fun b hb => q1 b hb⟩
      · have hj' : j < k := by omega
        have H0 := r1 hd j hj'
        refine ⟨fun t ht => cell_up ((setRow_other g (m8w C) wr (k * 8) (j * 8 + t) (by omega)).trans (H0.row t ht)) hgb, fun b hb t ht => cell_up (H0.dat b hb t ht) ?_⟩
        have hbg : b ≠ g := by
          rcases (r0.dat j (by omega)).2.2.2 with ⟨e, _⟩ | ⟨b', e, hne, _⟩
          · rw [hb] at e; cases e
          · rw [hb] at e; cases e; exact hne
        have hba : a ≠ some ⟨b, 0, none⟩ := by
          have := hd j k hj' hlt b hb
          rw [hT] at this
          exact this
        exact (q3 b hba).trans (setRow_block g b hbg (m8w C) wr (k * 8))
    · have hkn : k = n := by omega
      subst hkn
      go_wp2
      go_ret
      exact ⟨rfl, hdone, hsh, hrow, hoth, hsz, hb⟩
set_option maxHeartbeats 8000000 in
set_option maxRecDepth 20000 in
theorem markEventS_gen (B : Nat) (w : World) (g n cap c : Nat) (hs : Nat → Hd) (h : sh8 w g n hs) (hcp : n ≤ cap) (hn : n ≤ 1048576) (hc : c ≤ 20000000000000) (hB : B ≤ g) (hB2 : abv B hs n) :
    Calls Tryz.prog 40 #[.slice (some ⟨g, 0, none⟩) n cap, .int .i64 (c : Int)] w fun o w' => o = .returned (.int .i64 (cn8 c hs n : Int)) ∧ (dst hs n → ∀ j, j < n → mk8 w' g (j * 8) (cn8 c hs j) (hs j)) ∧ sh8 w' g n hs ∧ (∀ x N, rowF w x N → rowF w' x N) ∧ (∀ x, x ≠ g → (∀ j, j < n → (hs j).1 ≠ some ⟨x, 0, none⟩) → w'.heap[x]? = w.heap[x]?) ∧ w'.heap.size = w.heap.size ∧ Below B w w' := by
  have HSH : Hid (sh8 w g n hs) := h
  have HB2 : Hid (abv B hs n) := hB2
  have HLE : Hid (∀ j, j ≤ n → cn8 c hs j ≤ c + j * 1048583) := cn8_le c n hs (fun j hj => (h.dat j hj).2.1)
  clear h hB2
  go_enter Tryz.func40, Tryz.ntmps40
  go_wp2
  go_loopw [1, 5] (fun kk i wr => ∃ k : Nat, k ≤ n ∧ i = .int .i64 (k : Int) ∧ kk = .int .i64 (cn8 c hs k : Int) ∧ (dst hs n → ∀ j, j < k → mk8 wr g (j * 8) (cn8 c hs j) (hs j)) ∧ sh8 wr g n hs ∧ (∀ x N, rowF w x N → rowF wr x N) ∧ (∀ x, x ≠ g → (∀ j, j < n → (hs j).1 ≠ some ⟨x, 0, none⟩) → wr.heap[x]? = w.heap[x]?) ∧ wr.heap.size = w.heap.size ∧ Below B w wr) (fun _ i _ => n - (intOf i).toNat)
  case atStart => exact ⟨0, Nat.zero_le _, rfl, rfl, fun _ j hj => absurd hj (Nat.not_lt_zero _), HSH.out, fun _ _ h => h, fun _ _ _ => rfl, rfl, Below.refl _ _⟩
  case round =>
    obtain ⟨k, hk, rfl, rfl, hdone, hsh, hrow, hoth, hsz, hb⟩ := hrel
    by_cases hlt : k < n
    · have hkn : k * 8 + 8 ≤ n * 8 := by omega
      obtain ⟨⟨v0, z0⟩, f0⟩ := hsh.row (k * 8) (by omega)
      obtain ⟨⟨v1, z1⟩, f1⟩ := hsh.row (k * 8 + 1) (by omega)
      obtain ⟨⟨v2, z2⟩, f2⟩ := hsh.row (k * 8 + 2) (by omega)
      obtain ⟨⟨v3, z3⟩, f3⟩ := hsh.row (k * 8 + 3) (by omega)
      obtain ⟨⟨v4, z4⟩, f4⟩ := hsh.row (k * 8 + 4) (by omega)
      obtain ⟨⟨v5, z5⟩, f5⟩ := hsh.row (k * 8 + 5) (by omega)
      obtain ⟨⟨v6, z6⟩, f6⟩ := hsh.row (k * 8 + 6) (by omega)
      obtain ⟨zd, hh⟩ := hsh.dat k hlt
      have HD : Hid ((dst hs n → ∀ j, j < k → mk8 wr g (j * 8) (cn8 c hs j) (hs j)) ∧ sh8 wr g n hs ∧ (∀ x N, rowF w x N → rowF wr x N) ∧ (∀ x, x ≠ g → (∀ j, j < n → (hs j).1 ≠ some ⟨x, 0, none⟩) → wr.heap[x]? = w.heap[x]?) ∧ wr.heap.size = w.heap.size ∧ Below B w wr) := ⟨hdone, hsh, hrow, hoth, hsz, hb⟩
      clear hdone hsh hrow hoth hsz hb
      have HCN : Hid (cn8 c hs (k + 1) = cn8 c hs k + 7 + (hs k).2.1) := rfl
      have hC1 : cn8 c hs k ≤ 30000000000000 := by have := HLE.out k hk; omega
      generalize hC : cn8 c hs k = C at *
      have HC : Hid (cn8 c hs k = C) := hC
      clear hC
      have HAB : Hid (∀ b, (hs k).1 = some ⟨b, 0, none⟩ → B ≤ b) := HB2.out k hlt
      obtain ⟨t, ht⟩ : ∃ t, hs k = t := ⟨_, rfl⟩
      have HT : Hid (hs k = t) := ht
      rw [ht] at zd hh HCN HAB
      clear ht
      obtain ⟨a, m, cc⟩ := t
      simp only at zd
      have hm : m ≤ 1048576 := hh.1
      have e3 : ((C : Int) + 1 + 1 + 1).tmod 3 = (((C + 3) % 3 : Nat) : Int) := by rw [Int.tmod_eq_emod_of_nonneg (by omega)]; omega
      have e5 : ((C : Int) + 1 + 1 + 1 + 1 + 1).tmod 3 = (((C + 5) % 3 : Nat) : Int) := by rw [Int.tmod_eq_emod_of_nonneg (by omega)]; omega
      have HBY : Hid (∀ W, (∀ x N, rowF wr x N → rowF W x N) → Calls Tryz.prog 99 #[.slice a m cc, .int .i64 ((C : Int) + 1 + 1 + 1 + 1 + 1 + 1 + 1)] W fun o w' => o = .returned (.int .i64 ((C + 7 + m : Nat) : Int)) ∧ (∀ b, a = some ⟨b, 0, none⟩ → mkB w' b m (C + 7)) ∧ (∀ x N, rowF W x N → rowF w' x N) ∧ (∀ x, a ≠ some ⟨x, 0, none⟩ → w'.heap[x]? = W.heap[x]?) ∧ w'.heap.size = W.heap.size ∧ Below B W w') := fun W hW => by
        have := markHd B W g a m cc (C + 7) (hh.up hW) HAB.out (by omega)
        have e : (((C + 7 : Nat)) : Int) = (C : Int) + 1 + 1 + 1 + 1 + 1 + 1 + 1 := by omega
        rw [e] at this
        exact this
      have HH : Hid (hd wr g (a, m, cc)) := hh
      clear hh
      go_wp2_with (first | (go_at_call 99; refine (HBY.out _ (fun x N h => h.setRow g (m8w C) wr (k * 8))).mono ?_; rintro o w5 ⟨rfl, q1, q2, q3, q4, q5⟩; have HQ : Hid ((∀ b, a = some ⟨b, 0, none⟩ → mkB w5 b m (C + 7)) ∧ (∀ x N, rowF (setRow wr g (k * 8) (m8w C)) x N → rowF w5 x N) ∧ (∀ x, a ≠ some ⟨x, 0, none⟩ → w5.heap[x]? = (setRow wr g (k * 8) (m8w C)).heap[x]?) ∧ w5.heap.size = (setRow wr g (k * 8) (m8w C)).heap.size ∧ Below B (setRow wr g (k * 8) (m8w C)) w5) := ⟨q1, q2, q3, q4, q5⟩; clear q1 q2 q3 q4 q5))
      obtain ⟨q1, q2, q3, q4, q5⟩ := HQ.out
      obtain ⟨r1, r0, r2, r3, r4, r5⟩ := HD.out
      have hT := HT.out
      have hC := HC.out
      have hl : (m8w C).length = 7 := rfl
      have hag : a ≠ some ⟨g, 0, none⟩ := by
        rcases HH.out.2.2 with ⟨e, _⟩ | ⟨b, e, hne, _⟩
        · intro h; rw [h] at e; cases e
        · intro h; rw [h] at e; cases e; exact hne rfl
      have hgb := q3 g hag
      have hrf : ∀ x N, rowF wr x N → rowF w5 x N := fun x N h => q2 x N (h.setRow g (m8w C) wr (k * 8))
      refine ⟨⟨k + 1, by omega, by go_num, by rw [HCN.out]; congr 1, fun hd j hj => ?_, ⟨hrf _ _ r0.row, fun j hj => ⟨cell_up ((setRow_other g (m8w C) wr (k * 8) (j * 8 + 7) (by omega)).trans (r0.dat j hj).1) hgb, (r0.dat j hj).2.up hrf⟩⟩, fun x N h => hrf x N (r2 x N h), fun x hx hj => (q3 x (by have := hj k hlt; rw [hT] at this; exact this)).trans ((setRow_block g x hx (m8w C) wr (k * 8)).trans (r3 x hx hj)), by rw [q4, setRow_size]; exact r4, (setRow_below g B hB w (m8w C) wr (k * 8) r5).trans q5⟩, by simp [intOf]; omega⟩
      by_cases e : j = k
      · subst e
        rw [hT, hC]
        exact ⟨fun t ht => cell_up (setRow_at g (m8w C) wr (j * 8) t (by omega) (r0.row (j * 8 + t) (by omega)).1) hgb, fun b hb => q1 b hb⟩
      · have hj' : j < k := by omega
        have H0 := r1 hd j hj'
        refine ⟨fun t ht => cell_up ((setRow_other g (m8w C) wr (k * 8) (j * 8 + t) (by omega)).trans (H0.row t ht)) hgb, fun b hb t ht => cell_up (H0.dat b hb t ht) ?_⟩
        have hbg : b ≠ g := by
          rcases (r0.dat j (by omega)).2.2.2 with ⟨e, _⟩ | ⟨b', e, hne, _⟩
          · rw [hb] at e; cases e
          · rw [hb] at e; cases e; exact hne
        have hba : a ≠ some ⟨b, 0, none⟩ := by
          have := hd j k hj' hlt b hb
          rw [hT] at this
          exact this
        exact (q3 b hba).trans (setRow_block g b hbg (m8w C) wr (k * 8))
    · have hkn : k = n := by omega
      subst hkn
      go_wp2
      go_ret
      exact ⟨rfl, hdone, hsh, hrow, hoth, hsz, hb⟩
set_option maxHeartbeats 8000000 in
set_option maxRecDepth 20000 in
theorem markFrameS_gen (B : Nat) (w : World) (g n cap c : Nat) (hs : Nat → Hd) (h : sh5 w g n hs) (hcp : n ≤ cap) (hn : n ≤ 1048576) (hc : c ≤ 20000000000000) (hB : B ≤ g) (hB2 : abv B hs n) :
    Calls Tryz.prog 98 #[.slice (some ⟨g, 0, none⟩) n cap, .int .i64 (c : Int)] w fun o w' => o = .returned (.int .i64 (cn5 c hs n : Int)) ∧ (dst hs n → ∀ j, j < n → mk5 w' g (j * 5) (cn5 c hs j) (hs j)) ∧ sh5 w' g n hs ∧ (∀ x N, rowF w x N → rowF w' x N) ∧ (∀ x, x ≠ g → (∀ j, j < n → (hs j).1 ≠ some ⟨x, 0, none⟩) → w'.heap[x]? = w.heap[x]?) ∧ w'.heap.size = w.heap.size ∧ Below B w w' := by
  have HSH : Hid (sh5 w g n hs) := h
  have HB2 : Hid (abv B hs n) := hB2
  have HLE : Hid (∀ j, j ≤ n → cn5 c hs j ≤ c + j * 1048583) := cn5_le c n hs (fun j hj => (h.dat j hj).2.1)
  clear h hB2
  go_enter Tryz.func98, Tryz.ntmps98
  go_wp2
  go_loopw [1, 5] (fun kk i wr => ∃ k : Nat, k ≤ n ∧ i = .int .i64 (k : Int) ∧ kk = .int .i64 (cn5 c hs k : Int) ∧ (dst hs n → ∀ j, j < k → mk5 wr g (j * 5) (cn5 c hs j) (hs j)) ∧ sh5 wr g n hs ∧ (∀ x N, rowF w x N → rowF wr x N) ∧ (∀ x, x ≠ g → (∀ j, j < n → (hs j).1 ≠ some ⟨x, 0, none⟩) → wr.heap[x]? = w.heap[x]?) ∧ wr.heap.size = w.heap.size ∧ Below B w wr) (fun _ i _ => n - (intOf i).toNat)
  case atStart => exact ⟨0, Nat.zero_le _, rfl, rfl, fun _ j hj => absurd hj (Nat.not_lt_zero _), HSH.out, fun _ _ h => h, fun _ _ _ => rfl, rfl, Below.refl _ _⟩
  case round =>
    obtain ⟨k, hk, rfl, rfl, hdone, hsh, hrow, hoth, hsz, hb⟩ := hrel
    by_cases hlt : k < n
    · have hkn : k * 5 + 5 ≤ n * 5 := by omega
      obtain ⟨⟨v0, z0⟩, f0⟩ := hsh.row (k * 5) (by omega)
      obtain ⟨⟨v1, z1⟩, f1⟩ := hsh.row (k * 5 + 1) (by omega)
      obtain ⟨⟨v2, z2⟩, f2⟩ := hsh.row (k * 5 + 2) (by omega)
      obtain ⟨⟨v3, z3⟩, f3⟩ := hsh.row (k * 5 + 3) (by omega)
      obtain ⟨zd, hh⟩ := hsh.dat k hlt
      have HD : Hid ((dst hs n → ∀ j, j < k → mk5 wr g (j * 5) (cn5 c hs j) (hs j)) ∧ sh5 wr g n hs ∧ (∀ x N, rowF w x N → rowF wr x N) ∧ (∀ x, x ≠ g → (∀ j, j < n → (hs j).1 ≠ some ⟨x, 0, none⟩) → wr.heap[x]? = w.heap[x]?) ∧ wr.heap.size = w.heap.size ∧ Below B w wr) := ⟨hdone, hsh, hrow, hoth, hsz, hb⟩
      clear hdone hsh hrow hoth hsz hb
      have HCN : Hid (cn5 c hs (k + 1) = cn5 c hs k + 4 + (hs k).2.1) := rfl
      have hC1 : cn5 c hs k ≤ 30000000000000 := by have := HLE.out k hk; omega
      generalize hC : cn5 c hs k = C at *
      have HC : Hid (cn5 c hs k = C) := hC
      clear hC
      have HAB : Hid (∀ b, (hs k).1 = some ⟨b, 0, none⟩ → B ≤ b) := HB2.out k hlt
      obtain ⟨t, ht⟩ : ∃ t, hs k = t := ⟨_, rfl⟩
      have HT : Hid (hs k = t) := ht
      rw [ht] at zd hh HCN HAB
      clear ht
      obtain ⟨a, m, cc⟩ := t
      simp only at zd
      have hm : m ≤ 1048576 := hh.1
      have e0 : ((C : Int)).tmod 3 = (((C + 0) % 3 : Nat) : Int) := by rw [Int.tmod_eq_emod_of_nonneg (by omega)]; omega
      have e2 : ((C : Int) + 1 + 1).tmod 3 = (((C + 2) % 3 : Nat) : Int) := by rw [Int.tmod_eq_emod_of_nonneg (by omega)]; omega
      have HBY : Hid (∀ W, (∀ x N, rowF wr x N → rowF W x N) → Calls Tryz.prog 99 #[.slice a m cc, .int .i64 ((C : Int) + 1 + 1 + 1 + 1)] W fun o w' => o = .returned (.int .i64 ((C + 4 + m : Nat) : Int)) ∧ (∀ b, a = some ⟨b, 0, none⟩ → mkB w' b m (C + 4)) ∧ (∀ x N, rowF W x N → rowF w' x N) ∧ (∀ x, a ≠ some ⟨x, 0, none⟩ → w'.heap[x]? = W.heap[x]?) ∧ w'.heap.size = W.heap.size ∧ Below B W w') := fun W hW => by
        have := markHd B W g a m cc (C + 4) (hh.up hW) HAB.out (by omega)
        have e : (((C + 4 : Nat)) : Int) = (C : Int) + 1 + 1 + 1 + 1 := by omega
        rw [e] at this
        exact this
      have HH : Hid (hd wr g (a, m, cc)) := hh
      clear hh
      go_wp2_with (first | (go_at_call 99; refine (HBY.out _ (fun x N h => h.setRow g (m5w C) wr (k * 5))).mono ?_; rintro o w5 ⟨rfl, q1, q2, q3, q4, q5⟩; have HQ : Hid ((∀ b, a = some ⟨b, 0, none⟩ → mkB w5 b m (C + 4)) ∧ (∀ x N, rowF (setRow wr g (k * 5) (m5w C)) x N → rowF w5 x N) ∧ (∀ x, a ≠ some ⟨x, 0, none⟩ → w5.heap[x]? = (setRow wr g (k * 5) (m5w C)).heap[x]?) ∧ w5.heap.size = (setRow wr g (k * 5) (m5w C)).heap.size ∧ Below B (setRow wr g (k * 5) (m5w C)) w5) := ⟨q1, q2, q3, q4, q5⟩; clear q1 q2 q3 q4 q5))
      obtain ⟨q1, q2, q3, q4, q5⟩ := HQ.out
      obtain ⟨r1, r0, r2, r3, r4, r5⟩ := HD.out
      have hT := HT.out
      have hC := HC.out
      have hl : (m5w C).length = 4 := rfl
      have hag : a ≠ some ⟨g, 0, none⟩ := by
        rcases HH.out.2.2 with ⟨e, _⟩ | ⟨b, e, hne, _⟩
        · intro h; rw [h] at e; cases e
        · intro h; rw [h] at e; cases e; exact hne rfl
      have hgb := q3 g hag
      have hrf : ∀ x N, rowF wr x N → rowF w5 x N := fun x N h => q2 x N (h.setRow g (m5w C) wr (k * 5))
      refine ⟨⟨k + 1, by omega, by go_num, by rw [HCN.out]; congr 1, fun hd j hj => ?_, ⟨hrf _ _ r0.row, fun j hj => ⟨cell_up ((setRow_other g (m5w C) wr (k * 5) (j * 5 + 4) (by omega)).trans (r0.dat j hj).1) hgb, (r0.dat j hj).2.up hrf⟩⟩, fun x N h => hrf x N (r2 x N h), fun x hx hj => (q3 x (by have := hj k hlt; rw [hT] at this; exact this)).trans ((setRow_block g x hx (m5w C) wr (k * 5)).trans (r3 x hx hj)), by rw [q4, setRow_size]; exact r4, (setRow_below g B hB w (m5w C) wr (k * 5) r5).trans q5⟩, by simp [intOf]; omega⟩
      by_cases e : j = k
      · subst e
        rw [hT, hC]
        exact ⟨fun t ht => cell_up (setRow_at g (m5w C) wr (j * 5) t (by omega) (r0.row (j * 5 + t) (by omega)).1) hgb, fun b hb => q1 b hb⟩
      · have hj' : j < k := by omega
        have H0 := r1 hd j hj'
        refine ⟨fun t ht => cell_up ((setRow_other g (m5w C) wr (k * 5) (j * 5 + t) (by omega)).trans (H0.row t ht)) hgb, fun b hb t ht => cell_up (H0.dat b hb t ht) ?_⟩
        have hbg : b ≠ g := by
          rcases (r0.dat j (by omega)).2.2.2 with ⟨e, _⟩ | ⟨b', e, hne, _⟩
          · rw [hb] at e; cases e
          · rw [hb] at e; cases e; exact hne
        have hba : a ≠ some ⟨b, 0, none⟩ := by
          have := hd j k hj' hlt b hb
          rw [hT] at this
          exact this
        exact (q3 b hba).trans (setRow_block g b hbg (m5w C) wr (k * 5))
    · have hkn : k = n := by omega
      subst hkn
      go_wp2
      go_ret
      exact ⟨rfl, hdone, hsh, hrow, hoth, hsz, hb⟩
end Go.Proofs.YtaamahohdnbpiaaGreat
namespace Go.Proofs.YtaamahohdnbpiaaGreat
open Go.RowKit
set_option linter.unusedVariables false
set_option maxHeartbeats 8000000 in
set_option maxRecDepth 20000 in
theorem heldBoxS_gen (w : World) (g n cap c : Nat) (hs : Nat → Hd) (h : sh8 w g n hs) (hm : ∀ j, j < n → mk8 w g (j * 8) (cn8 c hs j) (hs j)) (hcp : n ≤ cap) (hn : n ≤ 1048576) (hc : c ≤ 20000000000000) :
    Calls Tryz.prog 101 #[.slice (some ⟨g, 0, none⟩) n cap, .int .i64 (c : Int)] w fun o w' => o = .returned (.int .i64 (cn8 c hs n : Int)) ∧ w' = w := by
  have HSH : Hid (sh8 w g n hs) := h
  have HM : Hid (∀ j, j < n → mk8 w g (j * 8) (cn8 c hs j) (hs j)) := hm
  have HLE : Hid (∀ j, j ≤ n → cn8 c hs j ≤ c + j * 1048583) := cn8_le c n hs (fun j hj => (h.dat j hj).2.1)
  clear h hm
  go_enter Tryz.func101, Tryz.ntmps101
  go_wp2
  go_loopw [1, 5] (fun kk i wr => ∃ k : Nat, k ≤ n ∧ i = .int .i64 (k : Int) ∧ kk = .int .i64 (cn8 c hs k : Int) ∧ wr = w) (fun _ i _ => n - (intOf i).toNat)
  case atStart => exact ⟨0, Nat.zero_le _, rfl, rfl, rfl⟩
  case round =>
    obtain ⟨k, hk, rfl, rfl, rfl⟩ := hrel
    by_cases hlt : k < n
    · have hx := HM.out k hlt
      obtain ⟨zd, hh⟩ := HSH.out.dat k hlt
      have HCN : Hid (cn8 c hs (k + 1) = cn8 c hs k + 7 + (hs k).2.1) := rfl
      have hC1 : cn8 c hs k ≤ 30000000000000 := by have := HLE.out k hk; omega
      generalize hC : cn8 c hs k = C at *
      have HC : Hid (cn8 c hs k = C) := hC
      clear hC
      obtain ⟨t, ht⟩ : ∃ t, hs k = t := ⟨_, rfl⟩
      rw [ht] at zd hh HCN hx
      clear ht
      obtain ⟨a, m, cc⟩ := t
      simp only at zd
      have hm : m ≤ 1048576 := hh.1
      have x0 : wr.cell? ⟨g, k * 8, none⟩ = some (.int .i64 (C : Int)) := hx.row 0 (by omega)
      have x1 : wr.cell? ⟨g, k * 8 + 1, none⟩ = some (.int .i64 ((C : Int) + 1)) := hx.row 1 (by omega)
      have x2 : wr.cell? ⟨g, k * 8 + 2, none⟩ = some (.int .i64 ((C : Int) + 1 + 1)) := hx.row 2 (by omega)
      have x3 : wr.cell? ⟨g, k * 8 + 3, none⟩ = some (.bool ((C : Int) % 3 == 0)) := hx.row 3 (by omega)
      have x4 : wr.cell? ⟨g, k * 8 + 4, none⟩ = some (.int .u32 (((C : Int) + 1 + 1 + 1 + 1) % 4294967296)) := hx.row 4 (by omega)
      have x5 : wr.cell? ⟨g, k * 8 + 5, none⟩ = some (.bool (((C : Int) + 5) % 3 == 0)) := hx.row 5 (by omega)
      have x6 : wr.cell? ⟨g, k * 8 + 6, none⟩ = some (.int .i64 ((C : Int) + 1 + 1 + 1 + 1 + 1 + 1)) := hx.row 6 (by omega)
      have hdat := hx.dat
      have e3 : ((C : Int) + 1 + 1 + 1).tmod 3 = (((C + 3) % 3 : Nat) : Int) := by rw [Int.tmod_eq_emod_of_nonneg (by omega)]; omega
      have e5 : ((C : Int) + 1 + 1 + 1 + 1 + 1).tmod 3 = (((C + 5) % 3 : Nat) : Int) := by rw [Int.tmod_eq_emod_of_nonneg (by omega)]; omega
      have HB : Hid (Calls Tryz.prog 103 #[.slice a m cc, .int .i64 ((C : Int) + 1 + 1 + 1 + 1 + 1 + 1 + 1)] wr fun o w' => o = .returned (.int .i64 ((C : Int) + 7 + (m : Int))) ∧ w' = wr) := by
        have := heldHd wr g a m cc (C + 7) hh hdat (by omega)
        have e : (((C + 7 : Nat)) : Int) = (C : Int) + 1 + 1 + 1 + 1 + 1 + 1 + 1 := by omega
        have e2 : (((C + 7 + m : Nat)) : Int) = (C : Int) + 7 + (m : Int) := by omega
        rw [e, e2] at this
        exact this
      clear hx hh hdat
      have hnz : ¬ (C : Int) + 7 + (m : Int) < 0 := by omega
      go_wp2_with (first | (go_at_call 103; refine HB.out.mono ?_; rintro o w5 ⟨rfl, rfl⟩))
      refine ⟨⟨k + 1, by omega, by go_num, by rw [HCN.out]; congr 1, trivial⟩, by simp [intOf]; omega⟩
    · have hkn : k = n := by omega
      subst hkn
      go_wp2
      go_ret
      exact ⟨rfl, rfl⟩
set_option maxHeartbeats 8000000 in
set_option maxRecDepth 20000 in
theorem heldEventS_gen (w : World) (g n cap c : Nat) (hs : Nat → Hd) (h : sh8 w g n hs) (hm : ∀ j, j < n → mk8 w g (j * 8) (cn8 c hs j) (hs j)) (hcp : n ≤ cap) (hn : n ≤ 1048576) (hc : c ≤ 20000000000000) :
    Calls Tryz.prog 42 #[.slice (some ⟨g, 0, none⟩) n cap, .int .i64 (c : Int)] w fun o w' => o = .returned (.int .i64 (cn8 c hs n : Int)) ∧ w' = w := by
  have HSH : Hid (sh8 w g n hs) := h
  have HM : Hid (∀ j, j < n → mk8 w g (j * 8) (cn8 c hs j) (hs j)) := hm
  have HLE : Hid (∀ j, j ≤ n → cn8 c hs j ≤ c + j * 1048583) := cn8_le c n hs (fun j hj => (h.dat j hj).2.1)
  clear h hm
  go_enter Tryz.func42, Tryz.ntmps42
  go_wp2
  go_loopw [1, 5] (fun kk i wr => ∃ k : Nat, k ≤ n ∧ i = .int .i64 (k : Int) ∧ kk = .int .i64 (cn8 c hs k : Int) ∧ wr = w) (fun _ i _ => n - (intOf i).toNat)
  case atStart => exact ⟨0, Nat.zero_le _, rfl, rfl, rfl⟩
  case round =>
    obtain ⟨k, hk, rfl, rfl, rfl⟩ := hrel
    by_cases hlt : k < n
    · have hx := HM.out k hlt
      obtain ⟨zd, hh⟩ := HSH.out.dat k hlt
      have HCN : Hid (cn8 c hs (k + 1) = cn8 c hs k + 7 + (hs k).2.1) := rfl
      have hC1 : cn8 c hs k ≤ 30000000000000 := by have := HLE.out k hk; omega
      generalize hC : cn8 c hs k = C at *
      have HC : Hid (cn8 c hs k = C) := hC
      clear hC
      obtain ⟨t, ht⟩ : ∃ t, hs k = t := ⟨_, rfl⟩
      rw [ht] at zd hh HCN hx
      clear ht
      obtain ⟨a, m, cc⟩ := t
      simp only at zd
      have hm : m ≤ 1048576 := hh.1
      have x0 : wr.cell? ⟨g, k * 8, none⟩ = some (.int .i64 (C : Int)) := hx.row 0 (by omega)
      have x1 : wr.cell? ⟨g, k * 8 + 1, none⟩ = some (.int .i64 ((C : Int) + 1)) := hx.row 1 (by omega)
      have x2 : wr.cell? ⟨g, k * 8 + 2, none⟩ = some (.int .i64 ((C : Int) + 1 + 1)) := hx.row 2 (by omega)
      have x3 : wr.cell? ⟨g, k * 8 + 3, none⟩ = some (.bool ((C : Int) % 3 == 0)) := hx.row 3 (by omega)
      have x4 : wr.cell? ⟨g, k * 8 + 4, none⟩ = some (.int .u32 (((C : Int) + 1 + 1 + 1 + 1) % 4294967296)) := hx.row 4 (by omega)
      have x5 : wr.cell? ⟨g, k * 8 + 5, none⟩ = some (.bool (((C : Int) + 5) % 3 == 0)) := hx.row 5 (by omega)
      have x6 : wr.cell? ⟨g, k * 8 + 6, none⟩ = some (.int .i64 ((C : Int) + 1 + 1 + 1 + 1 + 1 + 1)) := hx.row 6 (by omega)
      have hdat := hx.dat
      have e3 : ((C : Int) + 1 + 1 + 1).tmod 3 = (((C + 3) % 3 : Nat) : Int) := by rw [Int.tmod_eq_emod_of_nonneg (by omega)]; omega
      have e5 : ((C : Int) + 1 + 1 + 1 + 1 + 1).tmod 3 = (((C + 5) % 3 : Nat) : Int) := by rw [Int.tmod_eq_emod_of_nonneg (by omega)]; omega
      have HB : Hid (Calls Tryz.prog 103 #[.slice a m cc, .int .i64 ((C : Int) + 1 + 1 + 1 + 1 + 1 + 1 + 1)] wr fun o w' => o = .returned (.int .i64 ((C : Int) + 7 + (m : Int))) ∧ w' = wr) := by
        have := heldHd wr g a m cc (C + 7) hh hdat (by omega)
        have e : (((C + 7 : Nat)) : Int) = (C : Int) + 1 + 1 + 1 + 1 + 1 + 1 + 1 := by omega
        have e2 : (((C + 7 + m : Nat)) : Int) = (C : Int) + 7 + (m : Int) := by omega
        rw [e, e2] at this
        exact this
      clear hx hh hdat
      have hnz : ¬ (C : Int) + 7 + (m : Int) < 0 := by omega
      go_wp2_with (first | (go_at_call 103; refine HB.out.mono ?_; rintro o w5 ⟨rfl, rfl⟩))
      refine ⟨⟨k + 1, by omega, by go_num, by rw [HCN.out]; congr 1, trivial⟩, by simp [intOf]; omega⟩
    · have hkn : k = n := by omega
      subst hkn
      go_wp2
      go_ret
      exact ⟨rfl, rfl⟩
set_option maxHeartbeats 8000000 in
set_option maxRecDepth 20000 in
theorem heldFrameS_gen (w : World) (g n cap c : Nat) (hs : Nat → Hd) (h : sh5 w g n hs) (hm : ∀ j, j < n → mk5 w g (j * 5) (cn5 c hs j) (hs j)) (hcp : n ≤ cap) (hn : n ≤ 1048576) (hc : c ≤ 20000000000000) :
    Calls Tryz.prog 102 #[.slice (some ⟨g, 0, none⟩) n cap, .int .i64 (c : Int)] w fun o w' => o = .returned (.int .i64 (cn5 c hs n : Int)) ∧ w' = w := by
  have HSH : Hid (sh5 w g n hs) := h
  have HM : Hid (∀ j, j < n → mk5 w g (j * 5) (cn5 c hs j) (hs j)) := hm
  have HLE : Hid (∀ j, j ≤ n → cn5 c hs j ≤ c + j * 1048583) := cn5_le c n hs (fun j hj => (h.dat j hj).2.1)
  clear h hm
  go_enter Tryz.func102, Tryz.ntmps102
  go_wp2
  go_loopw [1, 5] (fun kk i wr => ∃ k : Nat, k ≤ n ∧ i = .int .i64 (k : Int) ∧ kk = .int .i64 (cn5 c hs k : Int) ∧ wr = w) (fun _ i _ => n - (intOf i).toNat)
  case atStart => exact ⟨0, Nat.zero_le _, rfl, rfl, rfl⟩
  case round =>
    obtain ⟨k, hk, rfl, rfl, rfl⟩ := hrel
    by_cases hlt : k < n
    · have hx := HM.out k hlt
      obtain ⟨zd, hh⟩ := HSH.out.dat k hlt
      have HCN : Hid (cn5 c hs (k + 1) = cn5 c hs k + 4 + (hs k).2.1) := rfl
      have hC1 : cn5 c hs k ≤ 30000000000000 := by have := HLE.out k hk; omega
      generalize hC : cn5 c hs k = C at *
      have HC : Hid (cn5 c hs k = C) := hC
      clear hC
      obtain ⟨t, ht⟩ : ∃ t, hs k = t := ⟨_, rfl⟩
      rw [ht] at zd hh HCN hx
      clear ht
      obtain ⟨a, m, cc⟩ := t
      simp only at zd
      have hm : m ≤ 1048576 := hh.1
      have x0 : wr.cell? ⟨g, k * 5, none⟩ = some (.bool ((C : Int) % 3 == 0)) := hx.row 0 (by omega)
      have x1 : wr.cell? ⟨g, k * 5 + 1, none⟩ = some (.int .u32 (((C : Int) + 1) % 4294967296)) := hx.row 1 (by omega)
      have x2 : wr.cell? ⟨g, k * 5 + 2, none⟩ = some (.bool (((C : Int) + 2) % 3 == 0)) := hx.row 2 (by omega)
      have x3 : wr.cell? ⟨g, k * 5 + 3, none⟩ = some (.int .i64 ((C : Int) + 1 + 1 + 1)) := hx.row 3 (by omega)
      have hdat := hx.dat
      have e0 : ((C : Int)).tmod 3 = (((C + 0) % 3 : Nat) : Int) := by rw [Int.tmod_eq_emod_of_nonneg (by omega)]; omega
      have e2 : ((C : Int) + 1 + 1).tmod 3 = (((C + 2) % 3 : Nat) : Int) := by rw [Int.tmod_eq_emod_of_nonneg (by omega)]; omega
      have HB : Hid (Calls Tryz.prog 103 #[.slice a m cc, .int .i64 ((C : Int) + 1 + 1 + 1 + 1)] wr fun o w' => o = .returned (.int .i64 ((C : Int) + 4 + (m : Int))) ∧ w' = wr) := by
        have := heldHd wr g a m cc (C + 4) hh hdat (by omega)
        have e : (((C + 4 : Nat)) : Int) = (C : Int) + 1 + 1 + 1 + 1 := by omega
        have e2 : (((C + 4 + m : Nat)) : Int) = (C : Int) + 4 + (m : Int) := by omega
        rw [e, e2] at this
        exact this
      clear hx hh hdat
      have hnz : ¬ (C : Int) + 4 + (m : Int) < 0 := by omega
      go_wp2_with (first | (go_at_call 103; refine HB.out.mono ?_; rintro o w5 ⟨rfl, rfl⟩))
      refine ⟨⟨k + 1, by omega, by go_num, by rw [HCN.out]; congr 1, trivial⟩, by simp [intOf]; omega⟩
    · have hkn : k = n := by omega
      subst hkn
      go_wp2
      go_ret
      exact ⟨rfl, rfl⟩
end Go.Proofs.YtaamahohdnbpiaaGreat
namespace Go.Proofs.YtaamahohdnbpiaaGreat
open Go.RowKit
set_option linter.unusedVariables false
theorem at3.newF {w : World} {g M : Nat} (h : rowF w g M) (p : Nat) (hp : p + 3 ≤ M) (b : R3) : at3 (setRow w g p [.bool b.e, .int .u32 b.m, .int .u32 b.k]) g p b :=
  ⟨setRow_at g _ w p 0 (by simp) (h (p + 0) (by omega)).1, setRow_at g _ w p 1 (by simp) (h (p + 1) (by omega)).1, setRow_at g _ w p 2 (by simp) (h (p + 2) (by omega)).1⟩
set_option maxHeartbeats 2000000 in
theorem mark3 (B : Nat) (w : World) (g n cap c : Nat) (hr : rowF w g (n * 3)) (hcp : n ≤ cap) (hn : n ≤ 1048576) (hc : c ≤ 1000) (hB : B ≤ g) :
    Calls Tryz.prog 96 #[.slice (some ⟨g, 0, none⟩) n cap, .int .i64 (c : Int)] w fun o w' => o = .returned (.int .i64 ((c + 3 * n : Nat) : Int)) ∧ (∀ j, j < n → at3 w' g (j * 3) (mkF (c + 3 * j))) ∧ (∀ x N, rowF w x N → rowF w' x N) ∧ (∀ b, b ≠ g → w'.heap[b]? = w.heap[b]?) ∧ w'.heap.size = w.heap.size ∧ Below B w w' := by
  have HR : Hid (rowF w g (n * 3)) := hr
  clear hr
  go_enter Tryz.func96, Tryz.ntmps96
  go_wp2
  go_loopw [1, 5] (fun kk i wr => ∃ k : Nat, k ≤ n ∧ i = .int .i64 (k : Int) ∧ kk = .int .i64 ((c + 3 * k : Nat) : Int) ∧ (∀ j, j < k → at3 wr g (j * 3) (mkF (c + 3 * j))) ∧ (∀ x N, rowF w x N → rowF wr x N) ∧ (∀ b, b ≠ g → wr.heap[b]? = w.heap[b]?) ∧ wr.heap.size = w.heap.size ∧ Below B w wr) (fun _ i _ => n - (intOf i).toNat)
  case atStart => exact ⟨0, Nat.zero_le _, rfl, by go_num, fun j hj => absurd hj (Nat.not_lt_zero _), fun _ _ h => h, fun _ _ => rfl, rfl, Below.refl _ _⟩
  case round =>
    obtain ⟨k, hk, rfl, rfl, hdone, hrow, hoth, hsz, hb⟩ := hrel
    by_cases hlt : k < n
    · have hrw := hrow g (n * 3) HR.out
      obtain ⟨⟨v0, z0⟩, f0⟩ := hrw (k * 3) (by omega)
      obtain ⟨⟨v1, z1⟩, f1⟩ := hrw (k * 3 + 1) (by omega)
      obtain ⟨⟨v2, z2⟩, f2⟩ := hrw (k * 3 + 2) (by omega)
      have HD : Hid ((∀ j, j < k → at3 wr g (j * 3) (mkF (c + 3 * j))) ∧ (∀ x N, rowF w x N → rowF wr x N) ∧ (∀ b, b ≠ g → wr.heap[b]? = w.heap[b]?) ∧ wr.heap.size = w.heap.size ∧ Below B w wr ∧ rowF wr g (n * 3)) := ⟨hdone, hrow, hoth, hsz, hb, hrw⟩
      clear hdone hrow hoth hsz hb hrw
      generalize hC : c + 3 * k = C at *
      have HC : Hid (c + 3 * k = C) := hC
      have hC1 : C ≤ 4000000 := by omega
      clear hC
      have e3 : (C : Int).tmod 3 = ((C % 3 : Nat) : Int) := by rw [Int.tmod_eq_emod_of_nonneg (by omega)]; omega
      go_wp2
      obtain ⟨r1, r2, r3, r4, r5, r6⟩ := HD.out
      have hC := HC.out
      refine ⟨⟨k + 1, by omega, by go_num, by rw [← hC]; go_num, fun j hj => ?_, fun x N h => (r2 x N h).setRow g [Value.bool ((C : Int) % 3 == 0), .int .u32 ((C : Int) + 1), .int .u32 ((C : Int) + 1 + 1)] wr (k * 3), fun b hb => (setRow_block g b hb [Value.bool ((C : Int) % 3 == 0), .int .u32 ((C : Int) + 1), .int .u32 ((C : Int) + 1 + 1)] wr (k * 3)).trans (r3 b hb), (setRow_size g [Value.bool ((C : Int) % 3 == 0), .int .u32 ((C : Int) + 1), .int .u32 ((C : Int) + 1 + 1)] wr (k * 3)).trans r4, setRow_below g B hB w [Value.bool ((C : Int) % 3 == 0), .int .u32 ((C : Int) + 1), .int .u32 ((C : Int) + 1 + 1)] wr (k * 3) r5⟩, by simp [intOf]; omega⟩
      by_cases e : j = k
      · subst e
        have := at3.newF r6 (j * 3) (by omega) (mkF C)
        rw [← mkF_row] at this
        rw [hC]
        exact this
      · exact (r1 j (by omega)).keep [Value.bool ((C : Int) % 3 == 0), .int .u32 ((C : Int) + 1), .int .u32 ((C : Int) + 1 + 1)] (k * 3) (by simp; omega)
    · have hkn : k = n := by omega
      subst hkn
      go_wp2
      go_ret
      exact ⟨rfl, hdone, hrow, hoth, hsz, hb⟩
theorem nil98 (w : World) (c : Nat) : Calls Tryz.prog 98 #[.slice none 0 0, .int .i64 (c : Int)] w fun o w' => o = .returned (.int .i64 (c : Int)) ∧ w' = w := by
  go_enter Tryz.func98, Tryz.ntmps98
  go_wp2
  go_loopw [1, 5] (fun kk i wr => i = .int .i64 0 ∧ kk = .int .i64 (c : Int) ∧ wr = w) (fun _ _ _ => 0)
  case atStart => exact ⟨rfl, rfl, rfl⟩
  case round =>
    obtain ⟨rfl, rfl, rfl⟩ := hrel
    go_wp2
    go_ret
    exact ⟨rfl, rfl⟩
theorem nil40 (w : World) (c : Nat) : Calls Tryz.prog 40 #[.slice none 0 0, .int .i64 (c : Int)] w fun o w' => o = .returned (.int .i64 (c : Int)) ∧ w' = w := by
  go_enter Tryz.func40, Tryz.ntmps40
  go_wp2
  go_loopw [1, 5] (fun kk i wr => i = .int .i64 0 ∧ kk = .int .i64 (c : Int) ∧ wr = w) (fun _ _ _ => 0)
  case atStart => exact ⟨rfl, rfl, rfl⟩
  case round =>
    obtain ⟨rfl, rfl, rfl⟩ := hrel
    go_wp2
    go_ret
    exact ⟨rfl, rfl⟩
theorem nil102 (w : World) (c : Nat) : Calls Tryz.prog 102 #[.slice none 0 0, .int .i64 (c : Int)] w fun o w' => o = .returned (.int .i64 (c : Int)) ∧ w' = w := by
  go_enter Tryz.func102, Tryz.ntmps102
  go_wp2
  go_loopw [1, 5] (fun kk i wr => i = .int .i64 0 ∧ kk = .int .i64 (c : Int) ∧ wr = w) (fun _ _ _ => 0)
  case atStart => exact ⟨rfl, rfl, rfl⟩
  case round =>
    obtain ⟨rfl, rfl, rfl⟩ := hrel
    go_wp2
    go_ret
    exact ⟨rfl, rfl⟩
theorem nil42 (w : World) (c : Nat) : Calls Tryz.prog 42 #[.slice none 0 0, .int .i64 (c : Int)] w fun o w' => o = .returned (.int .i64 (c : Int)) ∧ w' = w := by
  go_enter Tryz.func42, Tryz.ntmps42
  go_wp2
  go_loopw [1, 5] (fun kk i wr => i = .int .i64 0 ∧ kk = .int .i64 (c : Int) ∧ wr = w) (fun _ _ _ => 0)
  case atStart => exact ⟨rfl, rfl, rfl⟩
  case round =>
    obtain ⟨rfl, rfl, rfl⟩ := hrel
    go_wp2
    go_ret
    exact ⟨rfl, rfl⟩
/-- the blocks of a row of records and of their bytes -/
def ft (a : Option Addr) (n : Nat) (hs : Nat → Hd) (x : Nat) : Prop := a = some ⟨x, 0, none⟩ ∨ ∃ j, j < n ∧ (hs j).1 = some ⟨x, 0, none⟩
def inn (B T : Nat) (a : Option Addr) (n : Nat) (hs : Nat → Hd) : Prop := ∀ x, ft a n hs x → B ≤ x ∧ x < T
def sx8 (W : World) (a : Option Addr) (n cap : Nat) (hs : Nat → Hd) : Prop := (a = none ∧ n = 0 ∧ cap = 0) ∨ ∃ g, a = some ⟨g, 0, none⟩ ∧ sh8 W g n hs ∧ n ≤ cap
def sx5 (W : World) (a : Option Addr) (n cap : Nat) (hs : Nat → Hd) : Prop := (a = none ∧ n = 0 ∧ cap = 0) ∨ ∃ g, a = some ⟨g, 0, none⟩ ∧ sh5 W g n hs ∧ n ≤ cap
def mks8 (W : World) (a : Option Addr) (n c : Nat) (hs : Nat → Hd) : Prop := ∀ g, a = some ⟨g, 0, none⟩ → ∀ j, j < n → mk8 W g (j * 8) (cn8 c hs j) (hs j)
def mks5 (W : World) (a : Option Addr) (n c : Nat) (hs : Nat → Hd) : Prop := ∀ g, a = some ⟨g, 0, none⟩ → ∀ j, j < n → mk5 W g (j * 5) (cn5 c hs j) (hs j)
theorem mks8.up {W W' : World} {a : Option Addr} {n c : Nat} {hs : Nat → Hd} (h : mks8 W a n c hs) (he : ∀ x, ft a n hs x → W'.heap[x]? = W.heap[x]?) : mks8 W' a n c hs := fun g e j hj => (h g e j hj).up (he g (Or.inl e)) (fun b hb => he b (Or.inr ⟨j, hj, hb⟩))
theorem mks5.up {W W' : World} {a : Option Addr} {n c : Nat} {hs : Nat → Hd} (h : mks5 W a n c hs) (he : ∀ x, ft a n hs x → W'.heap[x]? = W.heap[x]?) : mks5 W' a n c hs := fun g e j hj => (h g e j hj).up (he g (Or.inl e)) (fun b hb => he b (Or.inr ⟨j, hj, hb⟩))
theorem hd.same {W W' : World} {g : Nat} {h : Hd} (H : hd W g h) (he : ∀ b, h.1 = some ⟨b, 0, none⟩ → W'.heap[b]? = W.heap[b]?) : hd W' g h := by
  obtain ⟨h1, h2, h3⟩ := H
  refine ⟨h1, h2, ?_⟩
  rcases h3 with h3 | ⟨b, e, hn, hf⟩
  · exact Or.inl h3
  · exact Or.inr ⟨b, e, hn, hf.up (he b e)⟩
theorem sh8.same {W W' : World} {g n : Nat} {hs : Nat → Hd} (h : sh8 W g n hs) (he : ∀ x, ft (some ⟨g, 0, none⟩) n hs x → W'.heap[x]? = W.heap[x]?) : sh8 W' g n hs :=
  ⟨h.row.up (he g (Or.inl rfl)), fun j hj => ⟨cell_up (h.dat j hj).1 (he g (Or.inl rfl)), (h.dat j hj).2.same fun b hb => he b (Or.inr ⟨j, hj, hb⟩)⟩⟩
theorem sh5.same {W W' : World} {g n : Nat} {hs : Nat → Hd} (h : sh5 W g n hs) (he : ∀ x, ft (some ⟨g, 0, none⟩) n hs x → W'.heap[x]? = W.heap[x]?) : sh5 W' g n hs :=
  ⟨h.row.up (he g (Or.inl rfl)), fun j hj => ⟨cell_up (h.dat j hj).1 (he g (Or.inl rfl)), (h.dat j hj).2.same fun b hb => he b (Or.inr ⟨j, hj, hb⟩)⟩⟩
theorem sx8.same {W W' : World} {a : Option Addr} {n cap : Nat} {hs : Nat → Hd} (h : sx8 W a n cap hs) (he : ∀ x, ft a n hs x → W'.heap[x]? = W.heap[x]?) : sx8 W' a n cap hs := by
  rcases h with h | ⟨g, e, h1, h2⟩
  · exact Or.inl h
  · subst e; exact Or.inr ⟨g, rfl, h1.same he, h2⟩
theorem sx5.same {W W' : World} {a : Option Addr} {n cap : Nat} {hs : Nat → Hd} (h : sx5 W a n cap hs) (he : ∀ x, ft a n hs x → W'.heap[x]? = W.heap[x]?) : sx5 W' a n cap hs := by
  rcases h with h | ⟨g, e, h1, h2⟩
  · exact Or.inl h
  · subst e; exact Or.inr ⟨g, rfl, h1.same he, h2⟩
theorem not_ft {a : Option Addr} {n : Nat} {hs : Nat → Hd} {g x : Nat} (ha : a = some ⟨g, 0, none⟩) (h : ¬ ft a n hs x) : x ≠ g ∧ ∀ j, j < n → (hs j).1 ≠ some ⟨x, 0, none⟩ := ⟨fun e => h (Or.inl (by rw [ha, e])), fun j hj e => h (Or.inr ⟨j, hj, e⟩)⟩
theorem nil97 (w : World) (c : Nat) : Calls Tryz.prog 97 #[.slice none 0 0, .int .i64 (c : Int)] w fun o w' => o = .returned (.int .i64 (c : Int)) ∧ w' = w := by
  go_enter Tryz.func97, Tryz.ntmps97
  go_wp2
  go_loopw [1, 5] (fun kk i wr => i = .int .i64 0 ∧ kk = .int .i64 (c : Int) ∧ wr = w) (fun _ _ _ => 0)
  case atStart => exact ⟨rfl, rfl, rfl⟩
  case round =>
    obtain ⟨rfl, rfl, rfl⟩ := hrel
    go_wp2
    go_ret
    exact ⟨rfl, rfl⟩
theorem nil101 (w : World) (c : Nat) : Calls Tryz.prog 101 #[.slice none 0 0, .int .i64 (c : Int)] w fun o w' => o = .returned (.int .i64 (c : Int)) ∧ w' = w := by
  go_enter Tryz.func101, Tryz.ntmps101
  go_wp2
  go_loopw [1, 5] (fun kk i wr => i = .int .i64 0 ∧ kk = .int .i64 (c : Int) ∧ wr = w) (fun _ _ _ => 0)
  case atStart => exact ⟨rfl, rfl, rfl⟩
  case round =>
    obtain ⟨rfl, rfl, rfl⟩ := hrel
    go_wp2
    go_ret
    exact ⟨rfl, rfl⟩
theorem markB_x (B T : Nat) (w : World) (p : Nat) (a : Option Addr) (n cap c : Nat) (hs : Nat → Hd) (h : sx8 w a n cap hs) (hi : inn B T a n hs) (hp : T ≤ p) (hn : n ≤ 1048576) (hc : c ≤ 20000000000000) :
    Calls Tryz.prog 97 #[.slice a n cap, .int .i64 (c : Int)] w fun o w' => o = .returned (.int .i64 (cn8 c hs n : Int)) ∧ (∀ o, w'.cell? ⟨p, o, none⟩ = w.cell? ⟨p, o, none⟩) ∧ (dst hs n → mks8 w' a n c hs) ∧ (∀ x N, rowF w x N → rowF w' x N) ∧ (∀ x, ¬ ft a n hs x → w'.heap[x]? = w.heap[x]?) ∧ sx8 w' a n cap hs ∧ w'.heap.size = w.heap.size ∧ Below B w w' := by
  have hpf : ¬ ft a n hs p := fun e => absurd (hi p e).2 (by omega)
  rcases h with ⟨ha, hn0, hcp0⟩ | ⟨g, rfl, h, hcp⟩
  · subst ha hn0 hcp0
    refine (nil97 w c).mono ?_
    rintro o w' ⟨rfl, rfl⟩
    exact ⟨rfl, fun _ => rfl, fun _ g e => absurd e (by simp), fun _ _ h => h, fun _ _ => rfl, Or.inl ⟨rfl, rfl, rfl⟩, rfl, Below.refl _ _⟩
  · refine (markBoxS_gen B w g n cap c hs h hcp hn hc (hi g (Or.inl rfl)).1 (fun j hj b hb => (hi b (Or.inr ⟨j, hj, hb⟩)).1)).mono ?_
    rintro o w' ⟨rfl, q1, q2, q3, q4, q5, q6⟩
    have q4' : ∀ x, ¬ ft (some ⟨g, 0, none⟩) n hs x → w'.heap[x]? = w.heap[x]? := fun x hx => q4 x (not_ft rfl hx).1 (not_ft rfl hx).2
    exact ⟨rfl, fun o => by simp only [World.cell?, q4' p hpf], fun hd g' e j hj => by cases e; exact q1 hd j hj, q3, q4', Or.inr ⟨g, rfl, q2, hcp⟩, q5, q6⟩
theorem markF_x (B T : Nat) (w : World) (p : Nat) (a : Option Addr) (n cap c : Nat) (hs : Nat → Hd) (h : sx5 w a n cap hs) (hi : inn B T a n hs) (hp : T ≤ p) (hn : n ≤ 1048576) (hc : c ≤ 20000000000000) :
    Calls Tryz.prog 98 #[.slice a n cap, .int .i64 (c : Int)] w fun o w' => o = .returned (.int .i64 (cn5 c hs n : Int)) ∧ (∀ o, w'.cell? ⟨p, o, none⟩ = w.cell? ⟨p, o, none⟩) ∧ (dst hs n → mks5 w' a n c hs) ∧ (∀ x N, rowF w x N → rowF w' x N) ∧ (∀ x, ¬ ft a n hs x → w'.heap[x]? = w.heap[x]?) ∧ sx5 w' a n cap hs ∧ w'.heap.size = w.heap.size ∧ Below B w w' := by
  have hpf : ¬ ft a n hs p := fun e => absurd (hi p e).2 (by omega)
  rcases h with ⟨ha, hn0, hcp0⟩ | ⟨g, rfl, h, hcp⟩
  · subst ha hn0 hcp0
    refine (nil98 w c).mono ?_
    rintro o w' ⟨rfl, rfl⟩
    exact ⟨rfl, fun _ => rfl, fun _ g e => absurd e (by simp), fun _ _ h => h, fun _ _ => rfl, Or.inl ⟨rfl, rfl, rfl⟩, rfl, Below.refl _ _⟩
  · refine (markFrameS_gen B w g n cap c hs h hcp hn hc (hi g (Or.inl rfl)).1 (fun j hj b hb => (hi b (Or.inr ⟨j, hj, hb⟩)).1)).mono ?_
    rintro o w' ⟨rfl, q1, q2, q3, q4, q5, q6⟩
    have q4' : ∀ x, ¬ ft (some ⟨g, 0, none⟩) n hs x → w'.heap[x]? = w.heap[x]? := fun x hx => q4 x (not_ft rfl hx).1 (not_ft rfl hx).2
    exact ⟨rfl, fun o => by simp only [World.cell?, q4' p hpf], fun hd g' e j hj => by cases e; exact q1 hd j hj, q3, q4', Or.inr ⟨g, rfl, q2, hcp⟩, q5, q6⟩
theorem markE_x (B T : Nat) (w : World) (p : Nat) (a : Option Addr) (n cap c : Nat) (hs : Nat → Hd) (h : sx8 w a n cap hs) (hi : inn B T a n hs) (hp : T ≤ p) (hn : n ≤ 1048576) (hc : c ≤ 20000000000000) :
    Calls Tryz.prog 40 #[.slice a n cap, .int .i64 (c : Int)] w fun o w' => o = .returned (.int .i64 (cn8 c hs n : Int)) ∧ (∀ o, w'.cell? ⟨p, o, none⟩ = w.cell? ⟨p, o, none⟩) ∧ (dst hs n → mks8 w' a n c hs) ∧ (∀ x N, rowF w x N → rowF w' x N) ∧ (∀ x, ¬ ft a n hs x → w'.heap[x]? = w.heap[x]?) ∧ sx8 w' a n cap hs ∧ w'.heap.size = w.heap.size ∧ Below B w w' := by
  have hpf : ¬ ft a n hs p := fun e => absurd (hi p e).2 (by omega)
  rcases h with ⟨ha, hn0, hcp0⟩ | ⟨g, rfl, h, hcp⟩
  · subst ha hn0 hcp0
    refine (nil40 w c).mono ?_
    rintro o w' ⟨rfl, rfl⟩
    exact ⟨rfl, fun _ => rfl, fun _ g e => absurd e (by simp), fun _ _ h => h, fun _ _ => rfl, Or.inl ⟨rfl, rfl, rfl⟩, rfl, Below.refl _ _⟩
  · refine (markEventS_gen B w g n cap c hs h hcp hn hc (hi g (Or.inl rfl)).1 (fun j hj b hb => (hi b (Or.inr ⟨j, hj, hb⟩)).1)).mono ?_
    rintro o w' ⟨rfl, q1, q2, q3, q4, q5, q6⟩
    have q4' : ∀ x, ¬ ft (some ⟨g, 0, none⟩) n hs x → w'.heap[x]? = w.heap[x]? := fun x hx => q4 x (not_ft rfl hx).1 (not_ft rfl hx).2
    exact ⟨rfl, fun o => by simp only [World.cell?, q4' p hpf], fun hd g' e j hj => by cases e; exact q1 hd j hj, q3, q4', Or.inr ⟨g, rfl, q2, hcp⟩, q5, q6⟩
theorem heldB_x (w : World) (a : Option Addr) (n cap c : Nat) (hs : Nat → Hd) (h : sx8 w a n cap hs) (hm : mks8 w a n c hs) (hn : n ≤ 1048576) (hc : c ≤ 20000000000000) :
    Calls Tryz.prog 101 #[.slice a n cap, .int .i64 (c : Int)] w fun o w' => o = .returned (.int .i64 (cn8 c hs n : Int)) ∧ w' = w := by
  rcases h with ⟨ha, hn0, hcp0⟩ | ⟨g, rfl, h, hcp⟩
  · subst ha hn0 hcp0
    exact nil101 w c
  · exact heldBoxS_gen w g n cap c hs h (hm g rfl) hcp hn hc
theorem heldF_x (w : World) (a : Option Addr) (n cap c : Nat) (hs : Nat → Hd) (h : sx5 w a n cap hs) (hm : mks5 w a n c hs) (hn : n ≤ 1048576) (hc : c ≤ 20000000000000) :
    Calls Tryz.prog 102 #[.slice a n cap, .int .i64 (c : Int)] w fun o w' => o = .returned (.int .i64 (cn5 c hs n : Int)) ∧ w' = w := by
  rcases h with ⟨ha, hn0, hcp0⟩ | ⟨g, rfl, h, hcp⟩
  · subst ha hn0 hcp0
    exact nil102 w c
  · exact heldFrameS_gen w g n cap c hs h (hm g rfl) hcp hn hc
theorem heldE_x (w : World) (a : Option Addr) (n cap c : Nat) (hs : Nat → Hd) (h : sx8 w a n cap hs) (hm : mks8 w a n c hs) (hn : n ≤ 1048576) (hc : c ≤ 20000000000000) :
    Calls Tryz.prog 42 #[.slice a n cap, .int .i64 (c : Int)] w fun o w' => o = .returned (.int .i64 (cn8 c hs n : Int)) ∧ w' = w := by
  rcases h with ⟨ha, hn0, hcp0⟩ | ⟨g, rfl, h, hcp⟩
  · subst ha hn0 hcp0
    exact nil42 w c
  · exact heldEventS_gen w g n cap c hs h (hm g rfl) hcp hn hc
end Go.Proofs.YtaamahohdnbpiaaGreat
namespace Go.Proofs.YtaamahohdnbpiaaGreat
open Go.RowKit
set_option linter.unusedVariables false
/-- where the four rows of a host lie -/
structure Wh where
  g1 : Nat
  n1 : Nat
  k1 : Nat
  a2 : Option Addr
  n2 : Nat
  k2 : Nat
  h2 : Nat → Hd
  a3 : Option Addr
  n3 : Nat
  k3 : Nat
  h3 : Nat → Hd
  a4 : Option Addr
  n4 : Nat
  k4 : Nat
  h4 : Nat → Hd
abbrev Wh.sl (s : Wh) : Sl := ⟨some ⟨s.g1, 0, none⟩, s.n1, s.k1, s.a2, s.n2, s.k2, s.a3, s.n3, s.k3, s.a4, s.n4, s.k4⟩
/-- the rows may be written; all of them lie from B on and below T -/
structure whS (B T : Nat) (W : World) (s : Wh) : Prop where
  f : rowF W s.g1 (s.n1 * 3)
  fc : s.n1 ≤ s.k1
  fb : B ≤ s.g1 ∧ s.g1 < T
  x : sx8 W s.a2 s.n2 s.k2 s.h2
  xb : inn B T s.a2 s.n2 s.h2
  r : sx5 W s.a3 s.n3 s.k3 s.h3
  rb : inn B T s.a3 s.n3 s.h3
  q : sx8 W s.a4 s.n4 s.k4 s.h4
  qb : inn B T s.a4 s.n4 s.h4
  m1 : s.n1 ≤ 1048576
  m2 : s.n2 ≤ 1048576
  m3 : s.n3 ≤ 1048576
  m4 : s.n4 ≤ 1048576
theorem whS.same {B T : Nat} {W W' : World} {s : Wh} (h : whS B T W s) (he : ∀ x, B ≤ x → x < T → W'.heap[x]? = W.heap[x]?) : whS B T W' s :=
  ⟨h.f.up (he _ h.fb.1 h.fb.2), h.fc, h.fb, h.x.same (fun x hx => he x (h.xb x hx).1 (h.xb x hx).2), h.xb, h.r.same (fun x hx => he x (h.rb x hx).1 (h.rb x hx).2), h.rb, h.q.same (fun x hx => he x (h.qb x hx).1 (h.qb x hx).2), h.qb, h.m1, h.m2, h.m3, h.m4⟩
/-- no two rows of the host share a block -/
structure whD (s : Wh) : Prop where
  s12 : ¬ ft s.a2 s.n2 s.h2 s.g1
  s13 : ¬ ft s.a3 s.n3 s.h3 s.g1
  s14 : ¬ ft s.a4 s.n4 s.h4 s.g1
  s23 : ∀ x, ft s.a2 s.n2 s.h2 x → ¬ ft s.a3 s.n3 s.h3 x
  s24 : ∀ x, ft s.a2 s.n2 s.h2 x → ¬ ft s.a4 s.n4 s.h4 x
  s34 : ∀ x, ft s.a3 s.n3 s.h3 x → ¬ ft s.a4 s.n4 s.h4 x
def Wh.c1 (s : Wh) (c : Nat) : Nat := c + 3 * s.n1
def Wh.c2 (s : Wh) (c : Nat) : Nat := cn8 (s.c1 c) s.h2 s.n2
def Wh.c3 (s : Wh) (c : Nat) : Nat := cn5 (s.c2 c) s.h3 s.n3
def Wh.c4 (s : Wh) (c : Nat) : Nat := cn8 (s.c3 c) s.h4 s.n4
/-- no two rows of bytes of one list are one -/
structure whE (s : Wh) : Prop where
  d2 : dst s.h2 s.n2
  d3 : dst s.h3 s.n3
  d4 : dst s.h4 s.n4
/-- the host marked from c on -/
structure whM (W : World) (s : Wh) (c : Nat) : Prop where
  f : ∀ j, j < s.n1 → at3 W s.g1 (j * 3) (mkF (c + 3 * j))
  x : mks8 W s.a2 s.n2 (s.c1 c) s.h2
  r : mks5 W s.a3 s.n3 (s.c2 c) s.h3
  q : mks8 W s.a4 s.n4 (s.c3 c) s.h4
theorem sx8.bd {W : World} {a : Option Addr} {n cap : Nat} {hs : Nat → Hd} (h : sx8 W a n cap hs) : ∀ j, j < n → (hs j).2.1 ≤ 1048576 := by
  rcases h with ⟨_, e, _⟩ | ⟨g, _, h, _⟩
  · intro j hj; omega
  · intro j hj; exact (h.dat j hj).2.1
theorem sx5.bd {W : World} {a : Option Addr} {n cap : Nat} {hs : Nat → Hd} (h : sx5 W a n cap hs) : ∀ j, j < n → (hs j).2.1 ≤ 1048576 := by
  rcases h with ⟨_, e, _⟩ | ⟨g, _, h, _⟩
  · intro j hj; omega
  · intro j hj; exact (h.dat j hj).2.1
theorem whS.c1 {B T : Nat} {W : World} {s : Wh} (h : whS B T W s) {c : Nat} (hc : c ≤ 1000) : s.c1 c ≤ 4000000 := by have := h.m1; unfold Wh.c1; omega
theorem whS.c2 {B T : Nat} {W : World} {s : Wh} (h : whS B T W s) {c : Nat} (hc : c ≤ 1000) : s.c2 c ≤ 2000000000000 := by
  have h1 := h.c1 hc
  have h2 := cn8_le (s.c1 c) s.n2 s.h2 h.x.bd s.n2 (Nat.le_refl _)
  have h3 := h.m2
  unfold Wh.c2
  omega
theorem whS.c3 {B T : Nat} {W : World} {s : Wh} (h : whS B T W s) {c : Nat} (hc : c ≤ 1000) : s.c3 c ≤ 4000000000000 := by
  have h1 := h.c2 hc
  have h2 := cn5_le (s.c2 c) s.n3 s.h3 h.r.bd s.n3 (Nat.le_refl _)
  have h3 := h.m3
  unfold Wh.c3
  omega
theorem whS.c4 {B T : Nat} {W : World} {s : Wh} (h : whS B T W s) {c : Nat} (hc : c ≤ 1000) : s.c4 c ≤ 6000000000000 := by
  have h1 := h.c3 hc
  have h2 := cn8_le (s.c3 c) s.n4 s.h4 h.q.bd s.n4 (Nat.le_refl _)
  have h3 := h.m4
  unfold Wh.c4
  omega
theorem mark3_x (B T : Nat) (w : World) (p g n cap c : Nat) (hr : rowF w g (n * 3)) (hcp : n ≤ cap) (hn : n ≤ 1048576) (hc : c ≤ 1000) (hB : B ≤ g) (hT : g < T) (hp : T ≤ p) :
    Calls Tryz.prog 96 #[.slice (some ⟨g, 0, none⟩) n cap, .int .i64 (c : Int)] w fun o w' => o = .returned (.int .i64 ((c + 3 * n : Nat) : Int)) ∧ (∀ o, w'.cell? ⟨p, o, none⟩ = w.cell? ⟨p, o, none⟩) ∧ (∀ j, j < n → at3 w' g (j * 3) (mkF (c + 3 * j))) ∧ (∀ x N, rowF w x N → rowF w' x N) ∧ (∀ b, b ≠ g → w'.heap[b]? = w.heap[b]?) ∧ w'.heap.size = w.heap.size ∧ Below B w w' := by
  refine (mark3 B w g n cap c hr hcp hn hc hB).mono ?_
  rintro o w' ⟨rfl, q1, q2, q3, q4, q5⟩
  exact ⟨rfl, fun o => by simp only [World.cell?, q3 p (by omega)], q1, q2, q3, q4, q5⟩
theorem sx8.rf {W W' : World} {a : Option Addr} {n cap : Nat} {hs : Nat → Hd} (h : sx8 W a n cap hs) (he : ∀ x, ft a n hs x → W'.heap[x]? = W.heap[x]?) : sx8 W' a n cap hs := h.same he
set_option maxHeartbeats 4000000 in
set_option maxRecDepth 20000 in
theorem markHost_gen (B T : Nat) (w : World) (c0 c1 c2 c3 lo st : Int) (s : Wh) (c : Nat) (h : whS B T w s) (hd : whD s) (hT : T ≤ w.heap.size) (hc : c ≤ 1000) :
    Calls Tryz.prog 39 #[.agg #[.int .i64 c0, .int .i64 c1, .int .i64 c2, .int .i64 c3, .slice (some ⟨s.g1, 0, none⟩) s.n1 s.k1, .slice s.a2 s.n2 s.k2, .slice s.a3 s.n3 s.k3, .slice s.a4 s.n4 s.k4, .int .i64 lo, .int .i64 st], .int .i64 (c : Int)] w fun o w' => o = .returned (.int .i64 (s.c4 c : Int)) ∧ (whE s → whM w' s c) ∧ whS B T w' s ∧ (∀ x, (x < B ∨ T ≤ x) → x < w.heap.size → w'.heap[x]? = w.heap[x]?) ∧ Below B w w' := by
  have HK : Hid (s.c1 c ≤ 20000000000000 ∧ s.c2 c ≤ 20000000000000 ∧ s.c3 c ≤ 20000000000000) := ⟨by have := h.c1 hc; omega, by have := h.c2 hc; omega, by have := h.c3 hc; omega⟩
  have HD : Hid (whD s) := hd
  have HA : Hid (∀ o : Obj, whS B T (w.alloc o) s) := fun o => h.same fun x _ hx => Below.heap_alloc w _ x (by omega)
  have HBA : Hid (∀ o : Obj, Below B w (w.alloc o)) := fun o => (Below.refl _ _).alloc (by have := h.fb; omega) _
  have HNA : Hid (∀ (o : Obj) x, x < w.heap.size → (w.alloc o).heap[x]? = w.heap[x]?) := fun o x hx => Below.heap_alloc w _ x hx
  clear h hd
  go_enter Tryz.func39, Tryz.ntmps39
  go_wp2_with (first
    | (go_at_call 96; refine (mark3_x B T _ w.heap.size s.g1 s.n1 s.k1 c (HA.out _).f (HA.out (.cells #[] 3)).fc (HA.out (.cells #[] 3)).m1 hc (HA.out (.cells #[] 3)).fb.1 (HA.out (.cells #[] 3)).fb.2 hT).mono ?_; rintro o w1 ⟨rfl, cp1, q1, q2, q3, q4, q5⟩; have HS1 : Hid (whS B T w1 s ∧ Below B w w1 ∧ (∀ j, j < s.n1 → at3 w1 s.g1 (j * 3) (mkF (c + 3 * j))) ∧ (∀ x, (x < B ∨ T ≤ x) → x < w.heap.size → w1.heap[x]? = w.heap[x]?)) := ⟨⟨q2 _ _ (HA.out _).f, (HA.out (.cells #[] 3)).fc, (HA.out (.cells #[] 3)).fb, (HA.out _).x.same (fun x hx => q3 x (fun e => HD.out.s12 (by rw [← e]; exact hx))), (HA.out (.cells #[] 3)).xb, (HA.out _).r.same (fun x hx => q3 x (fun e => HD.out.s13 (by rw [← e]; exact hx))), (HA.out (.cells #[] 3)).rb, (HA.out _).q.same (fun x hx => q3 x (fun e => HD.out.s14 (by rw [← e]; exact hx))), (HA.out (.cells #[] 3)).qb, (HA.out (.cells #[] 3)).m1, (HA.out (.cells #[] 3)).m2, (HA.out (.cells #[] 3)).m3, (HA.out (.cells #[] 3)).m4⟩, (HBA.out _).trans q5, q1, fun x hx hxl => (q3 x (by have := (HA.out (.cells #[] 3)).fb; omega)).trans (HNA.out _ x hxl)⟩; clear q1 q2 q3 q4 q5)
    | (go_at_call 97; refine (markB_x B T w1 w.heap.size s.a2 s.n2 s.k2 (s.c1 c) s.h2 HS1.out.1.x HS1.out.1.xb hT HS1.out.1.m2 HK.out.1).mono ?_; rintro o w2 ⟨rfl, cp2, q1, q2, q3, qs, q4, q5⟩; have HS2 : Hid (whS B T w2 s ∧ Below B w w2 ∧ (whE s → (∀ j, j < s.n1 → at3 w2 s.g1 (j * 3) (mkF (c + 3 * j))) ∧ mks8 w2 s.a2 s.n2 (s.c1 c) s.h2) ∧ (∀ x, (x < B ∨ T ≤ x) → x < w.heap.size → w2.heap[x]? = w.heap[x]?)) := ⟨⟨q2 _ _ HS1.out.1.f, HS1.out.1.fc, HS1.out.1.fb, qs, HS1.out.1.xb, HS1.out.1.r.same (fun x hx => q3 x (fun e => HD.out.s23 x e hx)), HS1.out.1.rb, HS1.out.1.q.same (fun x hx => q3 x (fun e => HD.out.s24 x e hx)), HS1.out.1.qb, HS1.out.1.m1, HS1.out.1.m2, HS1.out.1.m3, HS1.out.1.m4⟩, HS1.out.2.1.trans q5, fun he => ⟨fun j hj => (HS1.out.2.2.1 j hj).up (q3 _ HD.out.s12), q1 he.d2⟩, fun x hx hxl => (q3 x (fun e => by have := HS1.out.1.xb x e; omega)).trans (HS1.out.2.2.2 x hx hxl)⟩; clear q1 q2 q3 qs q4 q5)
    | (go_at_call 98; refine (markF_x B T w2 w.heap.size s.a3 s.n3 s.k3 (s.c2 c) s.h3 HS2.out.1.r HS2.out.1.rb hT HS2.out.1.m3 HK.out.2.1).mono ?_; rintro o w3 ⟨rfl, cp3, q1, q2, q3, qs, q4, q5⟩; have HS3 : Hid (whS B T w3 s ∧ Below B w w3 ∧ (whE s → (∀ j, j < s.n1 → at3 w3 s.g1 (j * 3) (mkF (c + 3 * j))) ∧ mks8 w3 s.a2 s.n2 (s.c1 c) s.h2 ∧ mks5 w3 s.a3 s.n3 (s.c2 c) s.h3) ∧ (∀ x, (x < B ∨ T ≤ x) → x < w.heap.size → w3.heap[x]? = w.heap[x]?)) := ⟨⟨q2 _ _ HS2.out.1.f, HS2.out.1.fc, HS2.out.1.fb, HS2.out.1.x.same (fun x hx => q3 x (HD.out.s23 x hx)), HS2.out.1.xb, qs, HS2.out.1.rb, HS2.out.1.q.same (fun x hx => q3 x (fun e => HD.out.s34 x e hx)), HS2.out.1.qb, HS2.out.1.m1, HS2.out.1.m2, HS2.out.1.m3, HS2.out.1.m4⟩, HS2.out.2.1.trans q5, fun he => ⟨fun j hj => ((HS2.out.2.2.1 he).1 j hj).up (q3 _ HD.out.s13), (HS2.out.2.2.1 he).2.up (fun x hx => q3 x (HD.out.s23 x hx)), q1 he.d3⟩, fun x hx hxl => (q3 x (fun e => by have := HS2.out.1.rb x e; omega)).trans (HS2.out.2.2.2 x hx hxl)⟩; clear q1 q2 q3 qs q4 q5)
    | (go_at_call 40; refine (markE_x B T w3 w.heap.size s.a4 s.n4 s.k4 (s.c3 c) s.h4 HS3.out.1.q HS3.out.1.qb hT HS3.out.1.m4 HK.out.2.2).mono ?_; rintro o w4 ⟨rfl, cp4, q1, q2, q3, qs, q4, q5⟩; have HS4 : Hid (whS B T w4 s ∧ Below B w w4 ∧ (whE s → (∀ j, j < s.n1 → at3 w4 s.g1 (j * 3) (mkF (c + 3 * j))) ∧ mks8 w4 s.a2 s.n2 (s.c1 c) s.h2 ∧ mks5 w4 s.a3 s.n3 (s.c2 c) s.h3 ∧ mks8 w4 s.a4 s.n4 (s.c3 c) s.h4) ∧ (∀ x, (x < B ∨ T ≤ x) → x < w.heap.size → w4.heap[x]? = w.heap[x]?)) := ⟨⟨q2 _ _ HS3.out.1.f, HS3.out.1.fc, HS3.out.1.fb, HS3.out.1.x.same (fun x hx => q3 x (HD.out.s24 x hx)), HS3.out.1.xb, HS3.out.1.r.same (fun x hx => q3 x (HD.out.s34 x hx)), HS3.out.1.rb, qs, HS3.out.1.qb, HS3.out.1.m1, HS3.out.1.m2, HS3.out.1.m3, HS3.out.1.m4⟩, HS3.out.2.1.trans q5, fun he => ⟨fun j hj => ((HS3.out.2.2.1 he).1 j hj).up (q3 _ HD.out.s14), (HS3.out.2.2.1 he).2.1.up (fun x hx => q3 x (HD.out.s24 x hx)), (HS3.out.2.2.1 he).2.2.up (fun x hx => q3 x (HD.out.s34 x hx)), q1 he.d4⟩, fun x hx hxl => (q3 x (fun e => by have := HS3.out.1.qb x e; omega)).trans (HS3.out.2.2.2 x hx hxl)⟩; clear q1 q2 q3 qs q4 q5))
  go_ret
  exact ⟨rfl, fun he => ⟨(HS4.out.2.2.1 he).1, (HS4.out.2.2.1 he).2.1, (HS4.out.2.2.1 he).2.2.1, (HS4.out.2.2.1 he).2.2.2⟩, HS4.out.1, HS4.out.2.2.2, HS4.out.2.1⟩
theorem whM.same {B T : Nat} {W W' : World} {s : Wh} {c : Nat} (h : whM W s c) (hs : whS B T W s) (he : ∀ x, B ≤ x → x < T → W'.heap[x]? = W.heap[x]?) : whM W' s c :=
  ⟨fun j hj => (h.f j hj).up (he _ hs.fb.1 hs.fb.2), h.x.up (fun x hx => he x (hs.xb x hx).1 (hs.xb x hx).2), h.r.up (fun x hx => he x (hs.rb x hx).1 (hs.rb x hx).2), h.q.up (fun x hx => he x (hs.qb x hx).1 (hs.qb x hx).2)⟩
set_option maxHeartbeats 4000000 in
set_option maxRecDepth 20000 in
theorem heldHost_gen (B T : Nat) (w : World) (c0 c1 c2 c3 lo st : Int) (s : Wh) (c : Nat) (h : whS B T w s) (hm : whM w s c) (hT : T ≤ w.heap.size) (hc : c ≤ 1000) :
    Calls Tryz.prog 41 #[.agg #[.int .i64 c0, .int .i64 c1, .int .i64 c2, .int .i64 c3, .slice (some ⟨s.g1, 0, none⟩) s.n1 s.k1, .slice s.a2 s.n2 s.k2, .slice s.a3 s.n3 s.k3, .slice s.a4 s.n4 s.k4, .int .i64 lo, .int .i64 st], .int .i64 (c : Int)] w fun o w' => o = .returned (.int .i64 (s.c4 c : Int)) ∧ Below w.heap.size w w' := by
  have HK : Hid (s.c1 c ≤ 20000000000000 ∧ s.c2 c ≤ 20000000000000 ∧ s.c3 c ≤ 20000000000000) := ⟨by have := h.c1 hc; omega, by have := h.c2 hc; omega, by have := h.c3 hc; omega⟩
  have HA : Hid (∀ W, Below w.heap.size w W → whS B T W s ∧ whM W s c) := fun W hW => ⟨h.same fun x _ hx => hW.block x (by omega), hm.same h fun x _ hx => hW.block x (by omega)⟩
  have HBA : Hid (∀ o : Obj, Below w.heap.size w (w.alloc o)) := fun o => (Below.refl _ _).alloc (Nat.le_refl _) _
  clear h hm
  go_enter Tryz.func41, Tryz.ntmps41
  go_wp2_with (first
    | (go_at_call 100; refine (heldFilterS_any _ s.g1 s.n1 s.k1 c (HA.out _ (HBA.out _)).2.f (HA.out _ (HBA.out (.cells #[] 3))).1.fc (HA.out _ (HBA.out (.cells #[] 3))).1.m1 hc).mono ?_; rintro o w1 ⟨rfl, q1⟩; have HB1 : Hid (Below w.heap.size w w1) := (HBA.out _).trans (q1.mono (by simp)); have cp1 := fun o => q1.cell (p := ⟨w.heap.size, o, none⟩) (by simp); clear q1; have n1 : ¬ ((s.c1 c : Nat) : Int) < 0 := by omega)
    | (go_at_call 101; refine (heldB_x _ s.a2 s.n2 s.k2 (s.c1 c) s.h2 (HA.out _ HB1.out).1.x (HA.out _ HB1.out).2.x (HA.out _ HB1.out).1.m2 HK.out.1).mono ?_; rintro o w2 ⟨rfl, rfl⟩; have n2 : ¬ ((s.c2 c : Nat) : Int) < 0 := by omega)
    | (go_at_call 102; refine (heldF_x _ s.a3 s.n3 s.k3 (s.c2 c) s.h3 (HA.out _ HB1.out).1.r (HA.out _ HB1.out).2.r (HA.out _ HB1.out).1.m3 HK.out.2.1).mono ?_; rintro o w3 ⟨rfl, rfl⟩; have n3 : ¬ ((s.c3 c : Nat) : Int) < 0 := by omega)
    | (go_at_call 42; refine (heldE_x _ s.a4 s.n4 s.k4 (s.c3 c) s.h4 (HA.out _ HB1.out).1.q (HA.out _ HB1.out).2.q (HA.out _ HB1.out).1.m4 HK.out.2.2).mono ?_; rintro o w4 ⟨rfl, rfl⟩; have n4 : ¬ ((s.c4 c : Nat) : Int) < 0 := by omega))
  go_ret
  exact ⟨rfl, HB1.out⟩
end Go.Proofs.YtaamahohdnbpiaaGreat
namespace Go.Proofs.YtaamahohdnbpiaaGreat
open Go.RowKit
set_option linter.unusedVariables false
theorem callBoxI {w X : World} (hX : Below w.heap.size w X) (hz : w.heap.size + 3 ≤ X.heap.size) {a : Option Addr} {n cap : Nat} {bs : List R8} (h : isR8s w a n cap bs) (hn : bs.length ≤ 1048576) (hd : ∀ j (h : j < bs.length), bs[j].l.length ≤ 1048576) :
    Calls Tryz.prog 88 #[.slice a n cap] X fun e w' => ∃ g, e = .returned (.slice (some ⟨g, 0, none⟩) n n) ∧ St (w.heap.size + 3) w' (fun W => isR8s W (some ⟨g, 0, none⟩) n n bs ∧ wr8 X.heap.size w'.heap.size W g n) ∧ Below X.heap.size X w' ∧ Below w.heap.size w w' ∧ w.heap.size + 3 ≤ w'.heap.size ∧ Keep3 w.heap.size X w' := by
  refine (toBoxS_any X a n cap bs (h.below hX) (by have := h.len; omega) hd).mono ?_
  rintro e w' ⟨g, rfl, h1, h2⟩
  have h1 := h1.mono hz
  exact ⟨g, rfl, fun W hW => ⟨(h1 W hW).1, (h1 W hW).2⟩, h2, hX.trans (h2.mono hX.size), Nat.le_trans hz h2.size, keep3 h2 hz⟩
theorem callFrameI {w X : World} (hX : Below w.heap.size w X) (hz : w.heap.size + 3 ≤ X.heap.size) {a : Option Addr} {n cap : Nat} {bs : List R5} (h : isR5s w a n cap bs) (hn : bs.length ≤ 1048576) (hd : ∀ j (h : j < bs.length), bs[j].l.length ≤ 1048576) :
    Calls Tryz.prog 89 #[.slice a n cap] X fun e w' => ∃ g, e = .returned (.slice (some ⟨g, 0, none⟩) n n) ∧ St (w.heap.size + 3) w' (fun W => isR5s W (some ⟨g, 0, none⟩) n n bs ∧ wr5 X.heap.size w'.heap.size W g n) ∧ Below X.heap.size X w' ∧ Below w.heap.size w w' ∧ w.heap.size + 3 ≤ w'.heap.size ∧ Keep3 w.heap.size X w' := by
  refine (toFrameS_any X a n cap bs (h.below hX) (by have := h.len; omega) hd).mono ?_
  rintro e w' ⟨g, rfl, h1, h2⟩
  have h1 := h1.mono hz
  exact ⟨g, rfl, fun W hW => ⟨(h1 W hW).1, (h1 W hW).2⟩, h2, hX.trans (h2.mono hX.size), Nat.le_trans hz h2.size, keep3 h2 hz⟩
theorem callEventI {w X : World} (hX : Below w.heap.size w X) (hz : w.heap.size + 3 ≤ X.heap.size) {a : Option Addr} {n cap : Nat} {bs : List R8} (h : isR8s w a n cap bs) (hn : bs.length ≤ 1048576) (hd : ∀ j (h : j < bs.length), bs[j].l.length ≤ 1048576) :
    Calls Tryz.prog 90 #[.slice a n cap] X fun e w' => ∃ g, e = .returned (.slice (some ⟨g, 0, none⟩) n n) ∧ St (w.heap.size + 3) w' (fun W => isR8s W (some ⟨g, 0, none⟩) n n bs ∧ wr8 X.heap.size w'.heap.size W g n) ∧ Below X.heap.size X w' ∧ Below w.heap.size w w' ∧ w.heap.size + 3 ≤ w'.heap.size ∧ Keep3 w.heap.size X w' := by
  refine (toEventS_any X a n cap bs (h.below hX) (by have := h.len; omega) hd).mono ?_
  rintro e w' ⟨g, rfl, h1, h2⟩
  have h1 := h1.mono hz
  exact ⟨g, rfl, fun W hW => ⟨(h1 W hW).1, (h1 W hW).2⟩, h2, hX.trans (h2.mono hX.size), Nat.le_trans hz h2.size, keep3 h2 hz⟩
/-- a host's rows, one behind the other -/
structure ivHo (B T : Nat) (W : World) (s : Sl) : Prop where
  e : ∃ g1 g2 g3 g4 T1 T2 T3, s = ⟨some ⟨g1, 0, none⟩, s.n1, s.n1, some ⟨g2, 0, none⟩, s.n2, s.n2, some ⟨g3, 0, none⟩, s.n3, s.n3, some ⟨g4, 0, none⟩, s.n4, s.n4⟩ ∧ rowF W g1 (s.n1 * 3) ∧ (B ≤ g1 ∧ g1 < T1) ∧ (B ≤ T1 ∧ T1 ≤ T2 ∧ T2 ≤ T3 ∧ T3 ≤ T) ∧ wr8 T1 T2 W g2 s.n2 ∧ wr5 T2 T3 W g3 s.n3 ∧ wr8 T3 T W g4 s.n4
set_option maxHeartbeats 4000000 in
set_option maxRecDepth 20000 in
theorem toHost_iv (w : World) (H : Ho) (s : Sl) (h : isHo w H s) (hn : H.le 1048576) :
    Calls Tryz.prog 36 #[hoV H s] w fun o w' => ∃ s', o = .returned (hoV H s') ∧ St w.heap.size w' (fun W => isHo W H s' ∧ ivHo w.heap.size w'.heap.size W s') ∧ Below w.heap.size w w' := by
  have HH : Hid (isHo w H s) := h
  have HN : Hid (H.le 1048576) := hn
  clear h hn
  obtain ⟨c0, c1, c2, c3, fs, bx, ff, qu, lo, st⟩ := H
  obtain ⟨a1, n1, k1, a2, n2, k2, a3, n3, k3, a4, n4, k4⟩ := s
  go_enter Tryz.func36, Tryz.ntmps36
  go_wp2_with (first | (go_at_call 86; refine (toConfig_any _ _ _ _ _).mono ?_; rintro o w1 ⟨rfl, hb1⟩; obtain ⟨cp1, cr1, co1, fr1, fo1⟩ := keep3 (b := w.heap.size) hb1 (by simp); have HB1 : Hid (Below w.heap.size w w1) := ((((Below.refl w.heap.size w).alloc (Nat.le_refl _) _).alloc (by simp) _).alloc (by simp; omega) _).trans (hb1.mono (by simp; omega)); have HZ1 : Hid (w.heap.size + 3 ≤ w1.heap.size) := (by have := hb1.size; simp at this; exact this); clear hb1) | (go_at_call 87; refine (callFilter (by (repeat refine Below.setCell ?_ (by simp; try omega) _); exact HB1.out) (by simpa using HZ1.out) HH.out.fs HN.out.fs).mono ?_; rintro o w2 ⟨g2, rfl, S2, G2, X2, B2, Z2, K2⟩; have HG2 : Hid (w.heap.size ≤ g2 ∧ g2 < w2.heap.size) := G2; clear G2; obtain ⟨cp2, cr2, co2, fr2, fo2⟩ := K2; have HS2 : Hid _ := S2; have HX2 : Hid _ := X2; have HB2 : Hid (Below w.heap.size w w2) := B2; have HZ2 : Hid (w.heap.size + 3 ≤ w2.heap.size) := Z2; clear S2 X2 B2 Z2) | (go_at_call 88; refine (callBoxI (by (repeat refine Below.setCell ?_ (by simp; try omega) _); exact HB2.out) (by simpa using HZ2.out) HH.out.bx HN.out.bx HN.out.bd).mono ?_; rintro o w3 ⟨g3, rfl, S3, X3, B3, Z3, K3⟩; obtain ⟨cp3, cr3, co3, fr3, fo3⟩ := K3; have HS3 : Hid _ := S3; have HX3 : Hid _ := X3; have HB3 : Hid (Below w.heap.size w w3) := B3; have HZ3 : Hid (w.heap.size + 3 ≤ w3.heap.size) := Z3; clear S3 X3 B3 Z3) | (go_at_call 89; refine (callFrameI (by (repeat refine Below.setCell ?_ (by simp; try omega) _); exact HB3.out) (by simpa using HZ3.out) HH.out.ff HN.out.ff HN.out.fd).mono ?_; rintro o w4 ⟨g4, rfl, S4, X4, B4, Z4, K4⟩; obtain ⟨cp4, cr4, co4, fr4, fo4⟩ := K4; have HS4 : Hid _ := S4; have HX4 : Hid _ := X4; have HB4 : Hid (Below w.heap.size w w4) := B4; have HZ4 : Hid (w.heap.size + 3 ≤ w4.heap.size) := Z4; clear S4 X4 B4 Z4) | (go_at_call 90; refine (callEventI (by (repeat refine Below.setCell ?_ (by simp; try omega) _); exact HB4.out) (by simpa using HZ4.out) HH.out.qu HN.out.qu HN.out.qd).mono ?_; rintro o w5 ⟨g5, rfl, S5, X5, B5, Z5, K5⟩; obtain ⟨cp5, cr5, co5, fr5, fo5⟩ := K5; have HS5 : Hid _ := S5; have HX5 : Hid _ := X5; have HB5 : Hid (Below w.heap.size w w5) := B5; have HZ5 : Hid (w.heap.size + 3 ≤ w5.heap.size) := Z5; clear S5 X5 B5 Z5))
  refine bodyPost_ret (v := hoV ⟨c0, c1, c2, c3, fs, bx, ff, qu, lo, st⟩ ⟨some ⟨g2, 0, none⟩, n1, n1, some ⟨g3, 0, none⟩, n2, n2, some ⟨g4, 0, none⟩, n3, n3, some ⟨g5, 0, none⟩, n4, n4⟩) (by simp [results, Tryz.results36, go_sem, cr5, cr4, cr3, cr2, cr1]) rfl ?_
  have T2 : St (w.heap.size + 3) w2 (fun W => isR3s W (some ⟨g2, 0, none⟩) n1 n1 fs ∧ rowF W g2 (n1 * 3)) := HS2.out
  have T3 : St (w.heap.size + 3) w3 (fun W => isR8s W (some ⟨g3, 0, none⟩) n2 n2 bx ∧ wr8 w2.heap.size w3.heap.size W g3 n2) := by intro W hW; simpa using HS3.out W hW
  have T4 : St (w.heap.size + 3) w4 (fun W => isR5s W (some ⟨g4, 0, none⟩) n3 n3 ff ∧ wr5 w3.heap.size w4.heap.size W g4 n3) := by intro W hW; simpa using HS4.out W hW
  have R5 : St (w.heap.size + 3) w5 (fun W => isR8s W (some ⟨g5, 0, none⟩) n4 n4 qu ∧ wr8 w4.heap.size w5.heap.size W g5 n4) := by intro W hW; simpa using HS5.out W hW
  have hz2 : w.heap.size ≤ w2.heap.size ∧ w2.heap.size ≤ w3.heap.size ∧ w3.heap.size ≤ w4.heap.size ∧ w4.heap.size ≤ w5.heap.size := ⟨HB2.out.size, by have := HX3.out.size; simpa using this, by have := HX4.out.size; simpa using this, by have := HX5.out.size; simpa using this⟩
  have z3 : w2.heap.size ≤ w3.heap.size := by have := HX3.out.size; simpa using this
  have z4 : w3.heap.size ≤ w4.heap.size := by have := HX4.out.size; simpa using this
  have z5 : w4.heap.size ≤ w5.heap.size := by have := HX5.out.size; simpa using this
  have R2 := (((((T2.set _ 4 (by omega) _).below HX3.out).set _ 5 (by omega) _).below HX4.out).set _ 6 (by omega) _).below HX5.out
  have R3 := (((T3.set _ 5 (by omega) _).below HX4.out).set _ 6 (by omega) _).below HX5.out
  have R4 := (T4.set _ 6 (by omega) _).below HX5.out
  have R : St (w.heap.size + 3) w5 (fun W => isHo W ⟨c0, c1, c2, c3, fs, bx, ff, qu, lo, st⟩ ⟨some ⟨g2, 0, none⟩, n1, n1, some ⟨g3, 0, none⟩, n2, n2, some ⟨g4, 0, none⟩, n3, n3, some ⟨g5, 0, none⟩, n4, n4⟩ ∧ ivHo w.heap.size w5.heap.size W ⟨some ⟨g2, 0, none⟩, n1, n1, some ⟨g3, 0, none⟩, n2, n2, some ⟨g4, 0, none⟩, n3, n3, some ⟨g5, 0, none⟩, n4, n4⟩) := fun W hW => ⟨⟨(R2 W hW).1, (R3 W hW).1, (R4 W hW).1, (R5 W hW).1⟩, ⟨⟨g2, g3, g4, g5, w2.heap.size, w3.heap.size, w4.heap.size, rfl, (R2 W hW).2, HG2.out, hz2, (R3 W hW).2, (R4 W hW).2, (R5 W hW).2⟩⟩⟩
  refine ⟨_, rfl, St.mono ?_ (Nat.le_add_right _ 3), ?_⟩
  · repeat refine St.set ?_ _ _ (by omega) _
    simpa using R
  · repeat refine Below.setCell ?_ (by simp; try omega) _
    exact HB5.out
theorem wr8.sh {B T : Nat} {W : World} {g n : Nat} (h : wr8 B T W g n) (hm : ∀ j, j < n → ∀ a m c, W.cell? ⟨g, j * 8 + 7, none⟩ = some (.slice a m c) → m ≤ 1048576) : ∃ hs : Nat → Hd, sh8 W g n hs ∧ inn B T (some ⟨g, 0, none⟩) n hs := by
  have key : ∀ j, ∃ x : Hd, j < n → W.cell? ⟨g, j * 8 + 7, none⟩ = some (.slice x.1 x.2.1 x.2.2) ∧ hd W g x ∧ ∀ b, x.1 = some ⟨b, 0, none⟩ → B ≤ b ∧ b < T := by
    intro j
    by_cases hj : j < n
    · obtain ⟨gd, m, h1, h2, h3, h4, h5⟩ := h.dat j hj
      exact ⟨(some ⟨gd, 0, none⟩, m, m), fun _ => ⟨h1, ⟨hm j hj _ _ _ h1, Nat.le_refl _, Or.inr ⟨gd, rfl, h3, h2⟩⟩, fun b hb => by cases hb; exact ⟨h4, h5⟩⟩⟩
    · exact ⟨(none, 0, 0), fun e => absurd e hj⟩
  refine ⟨fun j => Classical.choose (key j), ⟨h.row, fun j hj => ⟨(Classical.choose_spec (key j) hj).1, (Classical.choose_spec (key j) hj).2.1⟩⟩, fun x hx => ?_⟩
  rcases hx with e | ⟨j, hj, e⟩
  · cases e; exact ⟨h.lo, h.hi⟩
  · exact (Classical.choose_spec (key j) hj).2.2 x e
theorem isR8s.hdr {W : World} {g n cap : Nat} {bs : List R8} (h : isR8s W (some ⟨g, 0, none⟩) n cap bs) (hd : ∀ j (h : j < bs.length), bs[j].l.length ≤ 1048576) : ∀ j, j < n → ∀ a m c, W.cell? ⟨g, j * 8 + 7, none⟩ = some (.slice a m c) → m ≤ 1048576 := by
  intro j hj a m c hc
  have hl := h.len
  obtain ⟨g', off, e, hcs⟩ := h.cells (by intro e; subst e; simp at hl; omega)
  cases e
  obtain ⟨ao, m', c', hat⟩ := hcs j (by omega)
  have h1 := hat.cs
  rw [Nat.zero_add, hc] at h1
  cases h1
  have h2 := hat.dat.len
  have h3 := hd j (by omega)
  omega
theorem wr5.sh {B T : Nat} {W : World} {g n : Nat} (h : wr5 B T W g n) (hm : ∀ j, j < n → ∀ a m c, W.cell? ⟨g, j * 5 + 4, none⟩ = some (.slice a m c) → m ≤ 1048576) : ∃ hs : Nat → Hd, sh5 W g n hs ∧ inn B T (some ⟨g, 0, none⟩) n hs := by
  have key : ∀ j, ∃ x : Hd, j < n → W.cell? ⟨g, j * 5 + 4, none⟩ = some (.slice x.1 x.2.1 x.2.2) ∧ hd W g x ∧ ∀ b, x.1 = some ⟨b, 0, none⟩ → B ≤ b ∧ b < T := by
    intro j
    by_cases hj : j < n
    · obtain ⟨gd, m, h1, h2, h3, h4, h5⟩ := h.dat j hj
      exact ⟨(some ⟨gd, 0, none⟩, m, m), fun _ => ⟨h1, ⟨hm j hj _ _ _ h1, Nat.le_refl _, Or.inr ⟨gd, rfl, h3, h2⟩⟩, fun b hb => by cases hb; exact ⟨h4, h5⟩⟩⟩
    · exact ⟨(none, 0, 0), fun e => absurd e hj⟩
  refine ⟨fun j => Classical.choose (key j), ⟨h.row, fun j hj => ⟨(Classical.choose_spec (key j) hj).1, (Classical.choose_spec (key j) hj).2.1⟩⟩, fun x hx => ?_⟩
  rcases hx with e | ⟨j, hj, e⟩
  · cases e; exact ⟨h.lo, h.hi⟩
  · exact (Classical.choose_spec (key j) hj).2.2 x e
theorem isR5s.hdr {W : World} {g n cap : Nat} {bs : List R5} (h : isR5s W (some ⟨g, 0, none⟩) n cap bs) (hd : ∀ j (h : j < bs.length), bs[j].l.length ≤ 1048576) : ∀ j, j < n → ∀ a m c, W.cell? ⟨g, j * 5 + 4, none⟩ = some (.slice a m c) → m ≤ 1048576 := by
  intro j hj a m c hc
  have hl := h.len
  obtain ⟨g', off, e, hcs⟩ := h.cells (by intro e; subst e; simp at hl; omega)
  cases e
  obtain ⟨ao, m', c', hat⟩ := hcs j (by omega)
  have h1 := hat.cs
  rw [Nat.zero_add, hc] at h1
  cases h1
  have h2 := hat.dat.len
  have h3 := hd j (by omega)
  omega
theorem inn.mono {B T B' T' : Nat} {a : Option Addr} {n : Nat} {hs : Nat → Hd} (h : inn B T a n hs) (hB : B' ≤ B) (hT : T ≤ T') : inn B' T' a n hs := fun x hx => by have := h x hx; omega
theorem inn.apart {B T B' T' : Nat} {a a' : Option Addr} {n n' : Nat} {hs hs' : Nat → Hd} (h : inn B T a n hs) (h' : inn B' T' a' n' hs') (hB : T ≤ B') : ∀ x, ft a n hs x → ¬ ft a' n' hs' x := fun x h1 h2 => by have := h x h1; have := h' x h2; omega
theorem inn.out {B T : Nat} {a : Option Addr} {n : Nat} {hs : Nat → Hd} (h : inn B T a n hs) {x : Nat} (hx : x < B ∨ T ≤ x) : ¬ ft a n hs x := fun h1 => by have := h x h1; omega
theorem ivHo.wh {B T : Nat} {W : World} {s : Sl} {H : Ho} (h : ivHo B T W s) (hi : isHo W H s) (hn : H.le 1048576) : ∃ s' : Wh, s = s'.sl ∧ whS B T W s' ∧ whD s' := by
  obtain ⟨g1, g2, g3, g4, T1, T2, T3, e, f1, f2, f3, x2, x3, x4⟩ := h.e
  have ea2 : s.a2 = some ⟨g2, 0, none⟩ := by rw [e]
  have ea3 : s.a3 = some ⟨g3, 0, none⟩ := by rw [e]
  have ea4 : s.a4 = some ⟨g4, 0, none⟩ := by rw [e]
  have m1 : s.n1 ≤ 1048576 := by have := hi.fs.len; have := hn.fs; omega
  have m2 : s.n2 ≤ 1048576 := by have := hi.bx.len; have := hn.bx; omega
  have m3 : s.n3 ≤ 1048576 := by have := hi.ff.len; have := hn.ff; omega
  have m4 : s.n4 ≤ 1048576 := by have := hi.qu.len; have := hn.qu; omega
  have y2 := hi.bx
  have y3 := hi.ff
  have y4 := hi.qu
  rw [ea2] at y2
  rw [ea3] at y3
  rw [ea4] at y4
  obtain ⟨h2, s2, i2⟩ := x2.sh (y2.hdr hn.bd)
  obtain ⟨h3, s3, i3⟩ := x3.sh (y3.hdr hn.fd)
  obtain ⟨h4, s4, i4⟩ := x4.sh (y4.hdr hn.qd)
  refine ⟨⟨g1, s.n1, s.n1, some ⟨g2, 0, none⟩, s.n2, s.n2, h2, some ⟨g3, 0, none⟩, s.n3, s.n3, h3, some ⟨g4, 0, none⟩, s.n4, s.n4, h4⟩, e, ⟨f1, Nat.le_refl _, ⟨f2.1, by simp only; omega⟩, Or.inr ⟨g2, rfl, s2, Nat.le_refl _⟩, i2.mono (by omega) (by omega), Or.inr ⟨g3, rfl, s3, Nat.le_refl _⟩, i3.mono (by omega) (by omega), Or.inr ⟨g4, rfl, s4, Nat.le_refl _⟩, i4.mono (by omega) (by omega), m1, m2, m3, m4⟩, ⟨i2.out (Or.inl f2.2), i3.out (Or.inl (by simp only; omega)), i4.out (Or.inl (by simp only; omega)), i2.apart i3 (Nat.le_refl _), i2.apart i4 (by omega), i3.apart i4 (Nat.le_refl _)⟩⟩
theorem toHost_wh (w : World) (H : Ho) (s : Sl) (h : isHo w H s) (hn : H.le 1048576) :
    Calls Tryz.prog 36 #[hoV H s] w fun o w' => ∃ s' : Wh, o = .returned (hoV H s'.sl) ∧ St w.heap.size w' (fun W => isHo W H s'.sl) ∧ whS w.heap.size w'.heap.size w' s' ∧ whD s' ∧ Below w.heap.size w w' := by
  refine (toHost_iv w H s h hn).mono ?_
  rintro o w' ⟨s', rfl, h1, h2⟩
  obtain ⟨s2, rfl, h3, h4⟩ := h1.now.2.wh h1.now.1 hn
  exact ⟨s2, rfl, fun W hW => (h1 W hW).1, h3, h4, h2⟩
end Go.Proofs.YtaamahohdnbpiaaGreat
