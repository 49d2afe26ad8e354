import Derived.Test.YtaamahohdnbpiaaGreatMQ
import Derived.Test.YtaamahohdnbpiaaGreatGL
namespace Go.Proofs.YtaamahohdnbpiaaGreat
open Go.RowKit
set_option linter.unusedVariables false
theorem isBytes.typed {W : World} {a : Option Addr} {n cap : Nat} {l : List Nat} (h : isBytes W a n cap l) (p : Addr) (v v' : Value) (hp : W.cell? p = some v) (hv : ∀ x, v ≠ .int .u8 x) : isBytes (W.setCell p v') a n cap l := by
  refine ⟨h.len, h.cap, h.small, fun hne => ?_⟩
  obtain ⟨g, off, e, hc⟩ := h.cells hne
  refine ⟨g, off, e, fun j hj => ?_⟩
  rw [World.cell?_setCell_other _ _ _ _ (by
    intro e2
    have := hc j hj
    rw [← e2, hp] at this
    injection this with this
    exact hv _ this)]
  exact hc j hj
/-- is on the wire -/
def onW (b : R8) : Prop := b.x = 2 ∨ b.x = 3
/-- the first box on the wire -/
def bsy (bx : List R8) (r : Int) : Prop := (∃ (k : Nat) (h : k < bx.length), onW bx[k] ∧ (∀ j (hj : j < bx.length), j < k → ¬ onW bx[j]) ∧ r = (k : Int)) ∨ ((∀ k (h : k < bx.length), ¬ onW bx[k]) ∧ r = -1)
theorem bsy_neg {bx : List R8} {r : Int} (h : bsy bx r) : r < 0 ↔ ∀ k (h : k < bx.length), ¬ onW bx[k] := by
  rcases h with ⟨k, hk, h1, _, rfl⟩ | ⟨h1, rfl⟩
  · exact ⟨fun e => by omega, fun e => absurd h1 (e k hk)⟩
  · exact ⟨fun _ => h1, fun _ => by omega⟩
set_option maxHeartbeats 4000000 in
set_option maxRecDepth 20000 in
/-- spec.l3busy -/
theorem l3busy_any (w : World) (H : Ho) (s : Sl) (h : isR8s w s.a2 s.n2 s.k2 H.bx) (hn : s.n2 ≤ 1000) :
    Calls Tryz.prog 142 #[.agg (hoL H s).toArray] w fun o w' => ∃ r : Int, o = .returned (.int .i64 r) ∧ bsy H.bx r ∧ Below w.heap.size w w' := by
  have H0 : Hid (obS w H s (w.alloc (.cells (hoL H s).toArray 35))) := ⟨blk.new w _ 35, (Below.refl _ _).alloc (Nat.le_refl _) _⟩
  have hcp := h.cap
  obtain ⟨c0, c1, c2, c3, fs, bx, ff, qu, lo, st⟩ := H
  obtain ⟨a1, n1, k1, a2, n2, k2, a3, n3, k3, a4, n4, k4⟩ := s
  simp only [] at h hcp hn ⊢
  have HL : Hid (n2 = bx.length) := h.len
  by_cases hl : bx = []
  · subst hl
    have hn0 : n2 = 0 := HL.out
    subst hn0
    clear h
    go_enter Tryz.func142, Tryz.ntmps142
    go_wp2_with fail
    go_loopw [3] (fun i wr => i = .int .i64 0 ∧ obS w ⟨c0, c1, c2, c3, fs, [], ff, qu, lo, st⟩ ⟨a1, n1, k1, a2, 0, k2, a3, n3, k3, a4, n4, k4⟩ wr) (fun _ _ => 0)
    case atStart => exact ⟨rfl, H0.out⟩
    case round =>
      obtain ⟨rfl, hS⟩ := hrel
      have p5 := hS.p.cell 5 _ rfl
      have HS := hS.b
      go_wp2
      go_ret
      exact ⟨-1, rfl, Or.inr ⟨fun k hk => (by cases hk), rfl⟩, HS⟩
  obtain ⟨g, off, rfl, hc⟩ := h.cells hl
  have HC : Hid (∀ j (h : j < bx.length), ∃ ao m c, at8 w g (off + j * 8) bx[j] ao m c) := hc
  clear hc h hl
  go_enter Tryz.func142, Tryz.ntmps142
  go_wp2_with fail
  go_loopw [3] (fun i wr => ∃ k : Nat, k ≤ n2 ∧ i = .int .i64 (k : Int) ∧ (∀ j (hj : j < bx.length), j < k → ¬ onW bx[j]) ∧ obS w ⟨c0, c1, c2, c3, fs, bx, ff, qu, lo, st⟩ ⟨a1, n1, k1, some ⟨g, off, none⟩, n2, k2, a3, n3, k3, a4, n4, k4⟩ wr) (fun i _ => n2 - (intOf i).toNat)
  case atStart => exact ⟨0, Nat.zero_le _, rfl, fun j _ h => absurd h (Nat.not_lt_zero _), H0.out⟩
  case round =>
    obtain ⟨k, hk, rfl, hA, hS⟩ := hrel
    have HA : Hid (∀ j (hj : j < bx.length), j < k → ¬ onW bx[j]) := hA
    have HS : Hid (obS w ⟨c0, c1, c2, c3, fs, bx, ff, qu, lo, st⟩ ⟨a1, n1, k1, some ⟨g, off, none⟩, n2, k2, a3, n3, k3, a4, n4, k4⟩ wr) := hS
    have x5 := hS.p.cell 5 _ rfl
    clear hA hS
    by_cases hlt : k < n2
    · have hkl : k < bx.length := by have := HL.out; omega
      obtain ⟨ao, m, c, hx⟩ := HC.out k hkl
      have u0 := (hx.below HS.out.b).c0
      clear hx
      have HX : Hid (bx[k].x = bx[k].x) := rfl
      have HON : Hid (onW bx[k] ↔ (bx[k].x = 2 ∨ bx[k].x = 3)) := Iff.rfl
      generalize bx[k].x = x at *
      by_cases h2 : x = 2
      · subst h2
        go_wp2_with fail
        go_ret
        exact ⟨k, rfl, Or.inl ⟨k, hkl, HON.out.2 (by simp), HA.out, rfl⟩, HS.out.b⟩
      · have h2' : (x == 2) = false := by simpa using h2
        by_cases h3 : x = 3
        · subst h3
          go_wp2_with fail
          go_ret
          exact ⟨k, rfl, Or.inl ⟨k, hkl, HON.out.2 (by simp), HA.out, rfl⟩, HS.out.b⟩
        · have h3' : (x == 3) = false := by simpa using h3
          have HNO : Hid (¬ onW bx[k]) := fun e => by rcases HON.out.1 e with e | e <;> contradiction
          clear h2 h3
          go_wp2_with fail
          go_roundw
          case rel =>
            refine ⟨k + 1, by omega, by go_num, fun j hj hjk => ?_, HS.out⟩
            by_cases e : j = k
            · subst e; exact HNO.out
            · exact HA.out j hj (by omega)
          case measure => simp [intOf]; omega
    · have hkn : n2 = k := by omega
      subst hkn
      go_wp2_with fail
      go_ret
      exact ⟨-1, rfl, Or.inr ⟨fun j hj => HA.out j hj (by have := HL.out; omega), rfl⟩, HS.out.b⟩
end Go.Proofs.YtaamahohdnbpiaaGreat
namespace Go.Proofs.YtaamahohdnbpiaaGreat
open Go.RowKit
set_option linter.unusedVariables false
/-- the boxes behind Take -/
def takeB (bx : List R8) (i : Int) : List R8 := if h : 0 ≤ i ∧ i < (bx.length : Int) then (if (bx[i.toNat]'(by omega)).x = 1 ∧ (∀ b ∈ bx, ¬ (b.x = 2 ∨ b.x = 3)) then bx.set i.toNat { (bx[i.toNat]'(by omega)) with x := 2 } else bx) else bx
def takeHo (H : Ho) (i : Int) : Ho := { H with bx := takeB H.bx i }
theorem takeB_out {bx : List R8} {i : Int} (h : i < 0 ∨ (bx.length : Int) ≤ i) : takeB bx i = bx := by unfold takeB; rw [dif_neg (by omega)]
theorem takeB_no {bx : List R8} {k : Nat} (hk : k < bx.length) (h : bx[k].x ≠ 1) : takeB bx (k : Int) = bx := by
  unfold takeB
  rw [dif_pos (by omega), if_neg]
  rintro ⟨h1, _⟩
  simp only [Int.toNat_natCast] at h1
  exact h h1
theorem takeB_busy {bx : List R8} {i : Int} {r : Int} (h : bsy bx r) (hr : 0 ≤ r) : takeB bx i = bx := by
  unfold takeB
  by_cases hi : 0 ≤ i ∧ i < (bx.length : Int)
  · rw [dif_pos hi, if_neg]
    rintro ⟨_, h2⟩
    have := (bsy_neg h).2 (fun k hk => h2 _ (List.getElem_mem hk))
    omega
  · rw [dif_neg hi]
theorem takeB_yes {bx : List R8} {k : Nat} (hk : k < bx.length) (h : bx[k].x = 1) {r : Int} (hb : bsy bx r) (hr : r < 0) : takeB bx (k : Int) = bx.set k { bx[k] with x := 2 } := by
  unfold takeB
  rw [dif_pos (by omega), if_pos]
  · simp
  · refine ⟨by simpa using h, fun b hbm => ?_⟩
    obtain ⟨j, hj, rfl⟩ := List.getElem_of_mem hbm
    exact (bsy_neg hb).1 hr j hj
theorem takeB_len (bx : List R8) (i : Int) : (takeB bx i).length = bx.length := by
  unfold takeB
  split
  · split
    · simp
    · rfl
  · rfl
theorem takeB_l (bx : List R8) (i : Int) (j : Nat) (h : j < (takeB bx i).length) (h' : j < bx.length) : (takeB bx i)[j].l = bx[j].l := by
  unfold takeB
  split
  · split
    · simp only [List.getElem_set]
      split
      · rename_i e; subst e; rfl
      · rfl
    · rfl
  · rfl
/-- the state of one box is written -/
theorem isR8s.setX {W : World} {g n cap : Nat} {bx : List R8} (h : isR8s W (some ⟨g, 0, none⟩) n cap bx) (k : Nat) (hk : k < bx.length) (v : Int) : isR8s (W.setCell ⟨g, k * 8, none⟩ (.int .i64 v)) (some ⟨g, 0, none⟩) n cap (bx.set k { bx[k] with x := v }) := by
  have hc : ∀ j (h : j < bx.length), ∃ ao m c, at8 W g (j * 8) bx[j] ao m c := by
    obtain ⟨g', off, e, hc⟩ := h.cells (by intro e; subst e; cases hk)
    cases e
    intro j hj
    have := hc j hj
    rw [Nat.zero_add] at this
    exact this
  obtain ⟨_, _, _, hk0⟩ := hc k hk
  refine ⟨by simpa using h.len, h.cap, fun _ => ⟨g, 0, rfl, fun j hj => ?_⟩⟩
  have hj' : j < bx.length := by simpa using hj
  obtain ⟨ao, m, c, q⟩ := hc j hj'
  refine ⟨ao, m, c, ?_⟩
  rw [Nat.zero_add]
  have ot : ∀ t, j * 8 + t ≠ k * 8 → (W.setCell ⟨g, k * 8, none⟩ (.int .i64 v)).cell? ⟨g, j * 8 + t, none⟩ = W.cell? ⟨g, j * 8 + t, none⟩ := fun t ht => World.cell?_setCell_other _ _ _ _ (by intro e; simp at e <;> omega)
  have od := q.dat.typed ⟨g, k * 8, none⟩ _ (.int .i64 v) hk0.c0 (by intro x e; cases e)
  by_cases e : j = k
  · subst e
    simp only [List.getElem_set_self]
    exact ⟨World.cell?_setCell_same _ _ _ hk0.c0, (ot 1 (by omega)).trans q.c1, (ot 2 (by omega)).trans q.c2, (ot 3 (by omega)).trans q.c3, (ot 4 (by omega)).trans q.c4, (ot 5 (by omega)).trans q.c5, (ot 6 (by omega)).trans q.c6, (ot 7 (by omega)).trans q.cs, od⟩
  · rw [List.getElem_set_ne (by omega)]
    exact ⟨(ot 0 (by omega)).trans q.c0, (ot 1 (by omega)).trans q.c1, (ot 2 (by omega)).trans q.c2, (ot 3 (by omega)).trans q.c3, (ot 4 (by omega)).trans q.c4, (ot 5 (by omega)).trans q.c5, (ot 6 (by omega)).trans q.c6, (ot 7 (by omega)).trans q.cs, od⟩
theorem isR8s.setAt {W : World} {a : Option Addr} {n cap : Nat} {bx : List R8} (h : isR8s W a n cap bx) (p : Addr) (x v : Int) (hp : W.cell? p = some (.int .i64 x)) (hb : ∀ g off, a = some ⟨g, off, none⟩ → g ≠ p.block) : isR8s (W.setCell p (.int .i64 v)) a n cap bx := by
  refine ⟨h.len, h.cap, fun hne => ?_⟩
  obtain ⟨g, off, e, hc⟩ := h.cells hne
  refine ⟨g, off, e, fun j hj => ?_⟩
  obtain ⟨ao, m, c, q⟩ := hc j hj
  have hg := heap_setCell_other W p g (.int .i64 v) (hb g off e)
  exact ⟨ao, m, c, cell_up q.c0 hg, cell_up q.c1 hg, cell_up q.c2 hg, cell_up q.c3 hg, cell_up q.c4 hg, cell_up q.c5 hg, cell_up q.c6 hg, cell_up q.cs hg, q.dat.typed p _ _ hp (by intro y e; cases e)⟩
theorem isR5s.setAt {W : World} {a : Option Addr} {n cap : Nat} {bx : List R5} (h : isR5s W a n cap bx) (p : Addr) (x v : Int) (hp : W.cell? p = some (.int .i64 x)) (hb : ∀ g off, a = some ⟨g, off, none⟩ → g ≠ p.block) : isR5s (W.setCell p (.int .i64 v)) a n cap bx := by
  refine ⟨h.len, h.cap, fun hne => ?_⟩
  obtain ⟨g, off, e, hc⟩ := h.cells hne
  refine ⟨g, off, e, fun j hj => ?_⟩
  obtain ⟨ao, m, c, q⟩ := hc j hj
  have hg := heap_setCell_other W p g (.int .i64 v) (hb g off e)
  exact ⟨ao, m, c, cell_up q.c0 hg, cell_up q.c1 hg, cell_up q.c2 hg, cell_up q.c3 hg, cell_up q.cs hg, q.dat.typed p _ _ hp (by intro y e; cases e)⟩
theorem isR3s.setAt {W : World} {a : Option Addr} {n cap : Nat} {bx : List R3} (h : isR3s W a n cap bx) (p : Addr) (x v : Int) (hp : W.cell? p = some (.int .i64 x)) : isR3s (W.setCell p (.int .i64 v)) a n cap bx := by
  refine ⟨h.len, h.cap, fun hne => ?_⟩
  obtain ⟨g, off, e, hc⟩ := h.cells hne
  refine ⟨g, off, e, fun j hj => ?_⟩
  have q := hc j hj
  have ot : ∀ (t : Nat) (u : Value), W.cell? ⟨g, t, none⟩ = some u → (∀ y, u ≠ .int .i64 y) → (W.setCell p (.int .i64 v)).cell? ⟨g, t, none⟩ = some u := fun t u hu hn => by
    rw [World.cell?_setCell_other _ _ _ _ (by intro e2; rw [← e2, hp] at hu; injection hu with hu; exact hn _ hu.symm)]
    exact hu
  exact ⟨ot _ _ q.c0 (by intro y e; cases e), ot _ _ q.c1 (by intro y e; cases e), ot _ _ q.c2 (by intro y e; cases e)⟩
/-- the box k of a host's row is set on the wire -/
theorem isHo.setX {W : World} {H : Ho} {s : Sl} (h : isHo W H s) {g : Nat} (ha : s.a2 = some ⟨g, 0, none⟩) (hne : ∀ x, s.a3 = some ⟨x, 0, none⟩ ∨ s.a4 = some ⟨x, 0, none⟩ → g ≠ x) (ha3 : ∃ x, s.a3 = some ⟨x, 0, none⟩) (ha4 : ∃ x, s.a4 = some ⟨x, 0, none⟩) (k : Nat) (hk : k < H.bx.length) (v : Int) : isHo (W.setCell ⟨g, k * 8, none⟩ (.int .i64 v)) { H with bx := H.bx.set k { H.bx[k] with x := v } } s := by
  have hb := h.bx
  rw [ha] at hb
  obtain ⟨g', off, e, hc⟩ := hb.cells (by intro e; rw [e] at hk; cases hk)
  cases e
  obtain ⟨_, _, _, q⟩ := hc k hk
  have q0 := q.c0
  rw [Nat.zero_add] at q0
  obtain ⟨x3, e3⟩ := ha3
  obtain ⟨x4, e4⟩ := ha4
  refine ⟨h.fs.setAt _ _ _ q0, ?_, h.ff.setAt _ _ _ q0 (fun g2 off e => ?_), h.qu.setAt _ _ _ q0 (fun g2 off e => ?_)⟩
  · rw [ha]
    exact hb.setX k hk v
  · rw [e3] at e; cases e
    exact fun e5 => hne x3 (Or.inl e3) e5.symm
  · rw [e4] at e; cases e
    exact fun e5 => hne x4 (Or.inr e4) e5.symm
end Go.Proofs.YtaamahohdnbpiaaGreat
