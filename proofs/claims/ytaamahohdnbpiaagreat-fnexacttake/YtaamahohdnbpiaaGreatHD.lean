import Derived.Test.YtaamahohdnbpiaaGreatGA
namespace Go.Proofs.YtaamahohdnbpiaaGreat
open Go.RowKit
/-- a filter: Ext, Mask, Match -/
structure R3 where
  e : Bool
  m : Int
  k : Int
structure at3 (w : World) (g o : Nat) (b : R3) : Prop where
  c0 : w.cell? ⟨g, o, none⟩ = some (.bool b.e)
  c1 : w.cell? ⟨g, o + 1, none⟩ = some (.int .u32 b.m)
  c2 : w.cell? ⟨g, o + 2, none⟩ = some (.int .u32 b.k)
/-- the slice holds the filters bs -/
structure isR3s (w : World) (a : Option Addr) (n cap : Nat) (bs : List R3) : Prop where
  len : n = bs.length
  cap : n ≤ cap
  cells : bs ≠ [] → ∃ g off, a = some ⟨g, off, none⟩ ∧ ∀ j (h : j < bs.length), at3 w g (off + j * 3) bs[j]
theorem at3.below {w w' : World} {g o : Nat} {b : R3} (h : at3 w g o b) (hb : Below w.heap.size w w') : at3 w' g o b := by
  have hg := World.block_lt_of_cell? w _ h.c0
  exact ⟨(hb.cell (by exact hg)).trans h.c0, (hb.cell (by exact hg)).trans h.c1, (hb.cell (by exact hg)).trans h.c2⟩
theorem isR3s.below {w w' : World} {a : Option Addr} {n cap : Nat} {bs : List R3} (h : isR3s w a n cap bs) (hb : Below w.heap.size w w') : isR3s w' a n cap bs := by
  refine ⟨h.len, h.cap, fun hl => ?_⟩
  obtain ⟨g, off, ha, hc⟩ := h.cells hl
  exact ⟨g, off, ha, fun j hj => (hc j hj).below hb⟩
theorem Tryz.info85 : (Tryz.prog.info? 85).map (fun i => (i.zero, i.size, i.bytes)) = some (some (.agg #[.bool false, .int .u32 0, .int .u32 0]), 3, 12) := by kernel_rfl
/-- a row of N cells that may be written -/
structure rowZ (w : World) (g N : Nat) : Prop where
  cell : ∀ t, t < N → ∃ v, w.cell? ⟨g, t, none⟩ = some v
  free : ∀ t, w.frozen? ⟨g, t, none⟩ = false
theorem make_Z {ops : Array Oper} {rest : List Oper} {o : Oper} {a : Act} {Q : Exit → Act → World → Prop} (w : World) (T E : TypeId) (Z : Value) (sz by_ : Nat) (hi0 : (Tryz.prog.info? E).map (fun i => (i.zero, i.size, i.bytes)) = some (some Z, sz, by_)) (hu : Tryz.prog.underlying T = some (.slice E)) (hby : by_ ≤ 1000)
    (hg : o.guard = none) (l c : Operand) (hop : o.op = Op.makeSlice T l c) (C : Int) (n : Nat) (hl : a.eval l = .int .i64 C) (hc : a.eval c = .int .i64 C) (hC : C = (n : Int)) (hn : n ≤ 100000000)
    (hK : ∀ w', rowZ w' w.heap.size (n * sz) → w.grownBy w' none → w.heap.size < w'.heap.size → wpList Tryz.prog ops Q rest (a.put o.dst (.slice (some ⟨w.heap.size, 0, none⟩) n n)) w') :
    wpList Tryz.prog ops Q (o :: rest) a w := by
  obtain ⟨i0, hi, hz0, hz1, hz2⟩ := info_parts hi0
  have hmul : by_ * n ≤ 1000 * n := Nat.mul_le_mul_right _ hby
  refine wpList_make_full w hg l c T hop w.heap.size E i0 Z sz hu hi hz0 hz1 .i64 .i64 C C n hl hc hC hC (by rw [hz2]; omega) (by unfold maxLen; omega) (Nat.le_refl _) ?_
  intro w' ho hgr
  refine hK w' ⟨fun t ht => ?_, fun t => World.ownsRow.frozenAt ho t⟩ hgr (World.ownsRow.lt ho _ rfl).2
  rw [World.ownsRow.cellAt ho t (by omega)]
  have hlen : (madeCells Z.cells (n * sz)).toList.length = n * sz := ho.1
  exact ⟨_, List.getElem?_eq_getElem (by omega)⟩
/-- values put into the cells from p on -/
def setRow (W : World) (g : Nat) : Nat → List Value → World
  | _, [] => W
  | p, v :: vs => setRow (W.setCell ⟨g, p, none⟩ v) g (p + 1) vs
theorem setRow_other (g : Nat) : ∀ (vs : List Value) (W : World) (p t : Nat), (t < p ∨ p + vs.length ≤ t) → (setRow W g p vs).cell? ⟨g, t, none⟩ = W.cell? ⟨g, t, none⟩ := by
  intro vs
  induction vs with
  | nil => intro W p t _; rfl
  | cons v vs ih =>
    intro W p t h
    simp only [List.length_cons] at h
    show (setRow (W.setCell ⟨g, p, none⟩ v) g (p + 1) vs).cell? _ = _
    rw [ih _ (p + 1) t (by omega), World.cell?_setCell_other _ _ _ _ (by intro e; simp at e; try omega)]
theorem setRow_block (g : Nat) (b : Nat) (hb : b ≠ g) : ∀ (vs : List Value) (W : World) (p : Nat), (setRow W g p vs).heap[b]? = W.heap[b]? := by
  intro vs
  induction vs with
  | nil => intro W p; rfl
  | cons v vs ih => intro W p; exact (ih _ (p + 1)).trans (heap_setCell_other W ⟨g, p, none⟩ b v hb)
theorem setRow_frozen (g : Nat) (q : Addr) : ∀ (vs : List Value) (W : World) (p : Nat), (setRow W g p vs).frozen? q = W.frozen? q := by
  intro vs
  induction vs with
  | nil => intro W p; rfl
  | cons v vs ih => intro W p; rw [setRow, ih, World.frozen?_setCell]
theorem setRow_below (g B : Nat) (hB : B ≤ g) (w0 : World) : ∀ (vs : List Value) (W : World) (p : Nat), Below B w0 W → Below B w0 (setRow W g p vs) := by
  intro vs
  induction vs with
  | nil => intro W p h; exact h
  | cons v vs ih => intro W p h; exact ih _ _ (h.setCell (p := ⟨g, p, none⟩) (by simpa using hB) v)
theorem setRow_at (g : Nat) : ∀ (vs : List Value) (W : World) (p t : Nat) (ht : t < vs.length), (∃ u, W.cell? ⟨g, p + t, none⟩ = some u) → (setRow W g p vs).cell? ⟨g, p + t, none⟩ = some vs[t] := by
  intro vs
  induction vs with
  | nil => intro W p t ht; cases ht
  | cons v vs ih =>
    intro W p t ht hu
    cases t with
    | zero =>
      obtain ⟨u, hu⟩ := hu
      show (setRow (W.setCell ⟨g, p, none⟩ v) g (p + 1) vs).cell? ⟨g, p, none⟩ = some v
      rw [setRow_other g vs _ (p + 1) p (by omega)]
      exact World.cell?_setCell_same _ _ _ hu
    | succ t =>
      have e : p + (t + 1) = p + 1 + t := by omega
      rw [e] at hu ⊢
      refine ih _ (p + 1) t (by simpa using ht) ?_
      rw [World.cell?_setCell_other _ _ _ _ (by intro e2; simp at e2; try omega)]
      exact hu
theorem setRow_size (g : Nat) : ∀ (vs : List Value) (W : World) (p : Nat), (setRow W g p vs).heap.size = W.heap.size := by
  intro vs
  induction vs with
  | nil => intro W p; rfl
  | cons v vs ih => intro W p; rw [setRow, ih]; simp
theorem rowZ.put {w : World} {g N : Nat} (h : rowZ w g N) (vs : List Value) (p : Nat) (_hp : p + vs.length ≤ N) : rowZ (setRow w g p vs) g N := by
  refine ⟨fun t ht => ?_, fun t => by rw [setRow_frozen]; exact h.free t⟩
  by_cases h1 : t < p ∨ p + vs.length ≤ t
  · rw [setRow_other g vs w p t h1]; exact h.cell t ht
  · have e : t = p + (t - p) := by omega
    have := setRow_at g vs w p (t - p) (by omega) (by rw [← e]; exact h.cell t ht)
    rw [← e] at this
    exact ⟨_, this⟩
theorem rowZ.below {w w' : World} {g N : Nat} (h : rowZ w g N) (hb : Below w.heap.size w w') (hg : g < w.heap.size) : rowZ w' g N :=
  ⟨fun t ht => by obtain ⟨v, hv⟩ := h.cell t ht; exact ⟨v, (hb.cell (by exact hg)).trans hv⟩, fun t => (hb.frozen (by exact hg)).trans (h.free t)⟩
theorem at3.keep {w : World} {g o : Nat} {b : R3} (h : at3 w g o b) (vs : List Value) (p : Nat) (hp : o + 3 ≤ p ∨ p + vs.length ≤ o) : at3 (setRow w g p vs) g o b :=
  ⟨(setRow_other g vs w p o (by omega)).trans h.c0, (setRow_other g vs w p (o + 1) (by omega)).trans h.c1, (setRow_other g vs w p (o + 2) (by omega)).trans h.c2⟩
theorem at3.new {w : World} {g N : Nat} (h : rowZ w g N) (p : Nat) (hp : p + 3 ≤ N) (b : R3) : at3 (setRow w g p [.bool b.e, .int .u32 b.m, .int .u32 b.k]) g p b :=
  ⟨setRow_at g _ w p 0 (by simp) (h.cell p (by omega)), setRow_at g _ w p 1 (by simp) (h.cell (p + 1) (by omega)), setRow_at g _ w p 2 (by simp) (h.cell (p + 2) (by omega))⟩
/-- what holds of the blocks from B on, whatever becomes of those below -/
def St (B : Nat) (w : World) (p : World → Prop) : Prop := ∀ W, (∀ k, B ≤ k → k < w.heap.size → W.heap[k]? = w.heap[k]?) → p W
theorem St.now {B : Nat} {w : World} {p : World → Prop} (h : St B w p) : p w := h w fun _ _ _ => rfl
theorem St.below {B : Nat} {w w' : World} {p : World → Prop} (h : St B w p) (hb : Below w.heap.size w w') : St B w' p := fun W hW => h W fun k h1 h2 => (hW k h1 (Nat.lt_of_lt_of_le h2 hb.size)).trans (hb.block k h2)
theorem St.set {B : Nat} {w : World} {p : World → Prop} (h : St B w p) (b j : Nat) (hb : b < B) (v : Value) : St B (w.setCell ⟨b, j, none⟩ v) p := fun W hW => h W fun k h1 h2 => (hW k h1 (by simpa using h2)).trans (heap_setCell_other w ⟨b, j, none⟩ k v (by show k ≠ b; omega))
theorem St.mono {B B' : Nat} {w : World} {p : World → Prop} (h : St B w p) (hB : B' ≤ B) : St B' w p := fun W hW => h W fun k h1 h2 => hW k (by omega) h2
theorem cell_up {W w : World} {g o : Nat} {v : Value} (h : w.cell? ⟨g, o, none⟩ = some v) (he : W.heap[g]? = w.heap[g]?) : W.cell? ⟨g, o, none⟩ = some v := by
  simp only [World.cell?, he] at h ⊢
  exact h
theorem at3.up {W w : World} {g o : Nat} {b : R3} (h : at3 w g o b) (he : W.heap[g]? = w.heap[g]?) : at3 W g o b := ⟨cell_up h.c0 he, cell_up h.c1 he, cell_up h.c2 he⟩
theorem rowZ.F {w : World} {g N : Nat} (h : rowZ w g N) : rowF w g N := fun t ht => ⟨h.cell t ht, h.free t⟩
set_option maxHeartbeats 1000000 in
theorem toFilterS_any (w : World) (a : Option Addr) (n cap : Nat) (bs : List R3) (h : isR3s w a n cap bs) (hn : n ≤ 1048576) :
    Calls Tryz.prog 87 #[.slice a n cap] w fun e w' => ∃ g, e = .returned (.slice (some ⟨g, 0, none⟩) n n) ∧ St w.heap.size w' (fun W => isR3s W (some ⟨g, 0, none⟩) n n bs ∧ rowF W g (n * 3)) ∧ (w.heap.size ≤ g ∧ g < w'.heap.size) ∧ Below w.heap.size w w' := by
  have hlen := h.len
  have hcp := h.cap
  by_cases hl : bs = []
  · subst hl
    have hn0 : n = 0 := hlen
    subst hn0
    clear hlen h
    go_enter Tryz.func87, Tryz.ntmps87
    go_wp2_with (first | (at_make; refine make_Z _ 30 85 _ 3 12 Tryz.info85 Tryz.underlying30 (by decide) rfl (.tmp 6) (.tmp 6) rfl _ 0 rfl rfl rfl (by omega) ?_; intro w1 hrow hg1 hz1))
    go_loopw [4] (fun i wr => i = .int .i64 0 ∧ Below w.heap.size w wr ∧ w.heap.size < wr.heap.size) (fun _ _ => 0)
    case atStart => exact ⟨rfl, (Below.refl _ _).grown hg1 (Nat.le_refl _) (by intro k e; cases e), hz1⟩
    case round =>
      obtain ⟨rfl, hb, hz⟩ := hrel
      go_wp2
      go_ret
      exact ⟨_, rfl, fun _ _ => ⟨⟨rfl, Nat.le_refl _, fun e => absurd rfl e⟩, fun t ht => absurd ht (by omega)⟩, ⟨Nat.le_refl _, hz⟩, hb⟩
  · obtain ⟨g, off, rfl, hc⟩ := h.cells hl
    have HL : Hid (n = bs.length) := hlen
    have HC : Hid (∀ j (h : j < bs.length), at3 w g (off + j * 3) bs[j]) := hc
    have hgz : g < w.heap.size := World.block_lt_of_cell? w _ (hc 0 (List.length_pos_iff.2 hl)).c0
    clear h hlen hc
    go_enter Tryz.func87, Tryz.ntmps87
    go_wp2_with (first | (at_make; refine make_Z _ 30 85 _ 3 12 Tryz.info85 Tryz.underlying30 (by decide) rfl (.tmp 6) (.tmp 6) rfl _ n rfl rfl rfl (by omega) ?_; intro w1 hrow hg1 hz1))
    go_loopw [4] (fun i wr => ∃ k : Nat, k ≤ n ∧ i = .int .i64 k ∧ rowZ wr w.heap.size (n * 3) ∧ (∀ j (hj : j < k) (h : j < bs.length), at3 wr w.heap.size (j * 3) bs[j]) ∧ Below w.heap.size w wr ∧ w.heap.size < wr.heap.size) (fun i _ => n - (intOf i).toNat)
    case atStart => exact ⟨0, Nat.zero_le _, rfl, hrow, fun j hj => absurd hj (Nat.not_lt_zero _), (Below.refl _ _).grown hg1 (Nat.le_refl _) (by intro k e; cases e), hz1⟩
    case round =>
      clear hrow hz1 hg1
      obtain ⟨k, hk, rfl, hrow, hdone, hb, hz⟩ := hrel
      by_cases hlt : k < n
      · have hkl : k < bs.length := by have := HL.out; omega
        have hx := HC.out k hkl
        have x0 := (hb.cell (by exact hgz)).trans hx.c0
        have x1 := (hb.cell (by exact hgz)).trans hx.c1
        have x2 := (hb.cell (by exact hgz)).trans hx.c2
        have HD : Hid (∀ W, Below wr.heap.size wr W → rowZ W w.heap.size (n * 3) ∧ (∀ j (hj : j < k) (h : j < bs.length), at3 W w.heap.size (j * 3) bs[j]) ∧ Below w.heap.size w W ∧ w.heap.size < W.heap.size) := fun W hW => ⟨hrow.below hW hz, fun j hj hjl => (hdone j hj hjl).below hW, hb.trans (hW.mono (by omega)), Nat.lt_of_lt_of_le hz hW.size⟩
        clear hrow hdone hb hx
        have hkn : k * 3 + 3 ≤ n * 3 := by omega
        have HB : Hid (∀ W, rowZ W w.heap.size (n * 3) → at3 (setRow W w.heap.size (k * 3) [.bool bs[k].e, .int .u32 bs[k].m, .int .u32 bs[k].k]) w.heap.size (k * 3) bs[k]) := fun W hW => at3.new hW (k * 3) hkn bs[k]
        generalize hB0 : bs[k].e = e0 at *
        generalize hB1 : bs[k].m = m0 at *
        generalize hB2 : bs[k].k = k0 at *
        clear hB0 hB1 hB2
        go_wp2_with (first | (go_at_call 146; refine (toFilter_any _ _ _ _).mono ?_; rintro o w5 ⟨rfl, hb5⟩; obtain ⟨v0, z0⟩ := (HD.out w5 hb5).1.cell (k * 3) (by omega); obtain ⟨v1, z1⟩ := (HD.out w5 hb5).1.cell (k * 3 + 1) (by omega); obtain ⟨v2, z2⟩ := (HD.out w5 hb5).1.cell (k * 3 + 2) (by omega); have f0 := (HD.out w5 hb5).1.free (k * 3); have f1 := (HD.out w5 hb5).1.free (k * 3 + 1); have f2 := (HD.out w5 hb5).1.free (k * 3 + 2)))
        go_roundw
        case rel =>
          obtain ⟨r1, r2, r3, r4⟩ := HD.out w5 hb5
          refine ⟨k + 1, by omega, by go_num, r1.put [.bool e0, .int .u32 m0, .int .u32 k0] (k * 3) hkn, fun j hj hjl => ?_, setRow_below _ _ (Nat.le_refl _) w [.bool e0, .int .u32 m0, .int .u32 k0] w5 (k * 3) r3, ?_⟩
          · by_cases e : j = k
            · subst e
              exact HB.out w5 r1
            · exact (r2 j (by omega) hjl).keep [.bool e0, .int .u32 m0, .int .u32 k0] (k * 3) (by simp; omega)
          · simpa using r4
        case measure => simp [intOf]; omega
      · go_wp2
        go_ret
        refine ⟨_, rfl, fun W hW => ⟨⟨HL.out, Nat.le_refl _, fun _ => ⟨_, 0, rfl, fun j hj => ?_⟩⟩, hrow.F.up (hW _ (Nat.le_refl _) hz)⟩, ⟨Nat.le_refl _, hz⟩, hb⟩
        have := hdone j (by have := HL.out; omega) hj
        rw [Nat.zero_add]
        exact this.up (hW _ (Nat.le_refl _) hz)
end Go.Proofs.YtaamahohdnbpiaaGreat
