import Derived.Test.YtiaddabmiponoaaS18
import Derived.Test.YtiaddabmiponoaaS06
import Derived.Test.YtiaddabmiponoaaS21
import Derived.Test.YtiaddabmiponoaaProg
import Derived.WalkKit
import Derived.WalkSpells
import Derived.WalkLawsBesides
import Derived.Deep.QuietTactic
import Derived.BigQuiet
import Derived.Below
import Derived.Laws.BitsAllLaws
import Derived.Laws.IdiomStrings
import Derived.Deep.RegionWith
import Derived.Deep.MidRow
import Derived.Maps.AppendAt
namespace Go.Proofs.Ytiaddabmiponoaa
open Go.RowKit
theorem make_zeroB {ops : Array Oper} {rest : List Oper} {o : Oper} {a : Act} {Q : Exit → Act → World → Prop} (w : World)
    (hg : o.guard = none) (l c : Operand) (hop : o.op = Op.makeSlice 32 l c) (C : Int) (n : Nat) (hl : a.eval l = .int .i64 C) (hc : a.eval c = .int .i64 C) (hC : C = (n : Int)) (hn : n ≤ 100000000)
    (hK : ∀ w', rowB w' w.heap.size n (fun _ => 0) → w.grownBy w' none → w.heap.size < w'.heap.size → wpList Try.prog ops Q rest (a.put o.dst (.slice (some ⟨w.heap.size, 0, none⟩) n n)) w') :
    wpList Try.prog ops Q (o :: rest) a w := by
  obtain ⟨i0, hi, hz0, hz1, hz2⟩ := info_parts Try.info5
  refine wpList_make_full w hg l c 32 hop w.heap.size 5 i0 (.int .u8 0) 1 Try.underlying32 hi hz0 hz1 .i64 .i64 C C n hl hc hC hC (by rw [hz2]; omega) (by unfold maxLen; omega) (Nat.le_refl _) ?_
  intro w' ho hgr
  refine hK w' ⟨fun t ht => ?_, fun t ht => World.ownsRow.frozenAt ho t⟩ hgr (World.ownsRow.lt ho _ rfl).2
  rw [World.ownsRow.cellAt ho t (by omega)]
  have e : (madeCells (Value.int IntKind.u8 0).cells (n * 1)).toList = List.replicate (n * 1) (.int .u8 0) := toList_madeCells_one _ _
  rw [e, Nat.mul_one, List.getElem?_replicate, if_pos ht]
  rfl
/-- m cells from the block's front that may be written -/
def rowF (w : World) (g m : Nat) : Prop := ∀ t, t < m → (∃ v, w.cell? ⟨g, t, none⟩ = some v) ∧ w.frozen? ⟨g, t, none⟩ = false
theorem rowF.up {w W : World} {g m : Nat} (h : rowF w g m) (he : W.heap[g]? = w.heap[g]?) : rowF W g m := fun t ht => by
  have := h t ht
  simp only [World.cell?, World.frozen?, he] at this ⊢
  exact this
theorem rowF.setOther {w : World} {g m : Nat} (h : rowF w g m) (b j : Nat) (v : Value) (hb : b ≠ g) : rowF (w.setCell ⟨b, j, none⟩ v) g m := h.up (heap_setCell_other w ⟨b, j, none⟩ g v (fun e => hb e.symm))
theorem isBytes.other {w w' : World} {g n cap : Nat} {l : List Nat} (h : isBytes w (some ⟨g, 0, none⟩) n cap l) (hk : w'.heap[g]? = w.heap[g]?) : isBytes w' (some ⟨g, 0, none⟩) n cap l := by
  refine ⟨h.len, h.cap, h.small, fun hl => ?_⟩
  obtain ⟨g', off, ha, hc⟩ := h.cells hl
  cases ha
  refine ⟨g, 0, rfl, fun t ht => ?_⟩
  have := hc t ht
  simp only [World.cell?, hk] at this ⊢
  exact this
/-- a filter: Ext, Mask, Match -/
structure R3 where
  e : Bool
  m : Int
  k : Int
structure at3 (w : World) (g o : Nat) (b : R3) : Prop where
  c0 : w.cell? ⟨g, o, none⟩ = some (.bool b.e)
  c1 : w.cell? ⟨g, o + 1, none⟩ = some (.int .u32 b.m)
  c2 : w.cell? ⟨g, o + 2, none⟩ = some (.int .u32 b.k)
/-- the slice holds the filters bs -/
structure isR3s (w : World) (a : Option Addr) (n cap : Nat) (bs : List R3) : Prop where
  len : n = bs.length
  cap : n ≤ cap
  cells : bs ≠ [] → ∃ g off, a = some ⟨g, off, none⟩ ∧ ∀ j (h : j < bs.length), at3 w g (off + j * 3) bs[j]
theorem at3.below {w w' : World} {g o : Nat} {b : R3} (h : at3 w g o b) (hb : Below w.heap.size w w') : at3 w' g o b := by
  have hg := World.block_lt_of_cell? w _ h.c0
  exact ⟨(hb.cell (by exact hg)).trans h.c0, (hb.cell (by exact hg)).trans h.c1, (hb.cell (by exact hg)).trans h.c2⟩
theorem isR3s.below {w w' : World} {a : Option Addr} {n cap : Nat} {bs : List R3} (h : isR3s w a n cap bs) (hb : Below w.heap.size w w') : isR3s w' a n cap bs := by
  refine ⟨h.len, h.cap, fun hl => ?_⟩
  obtain ⟨g, off, ha, hc⟩ := h.cells hl
  exact ⟨g, off, ha, fun j hj => (hc j hj).below hb⟩
/-- a row of N cells that may be written -/
structure rowZ (w : World) (g N : Nat) : Prop where
  cell : ∀ t, t < N → ∃ v, w.cell? ⟨g, t, none⟩ = some v
  free : ∀ t, w.frozen? ⟨g, t, none⟩ = false
theorem make_Z {ops : Array Oper} {rest : List Oper} {o : Oper} {a : Act} {Q : Exit → Act → World → Prop} (w : World) (T E : TypeId) (Z : Value) (sz by_ : Nat) (hi0 : (Try.prog.info? E).map (fun i => (i.zero, i.size, i.bytes)) = some (some Z, sz, by_)) (hu : Try.prog.underlying T = some (.slice E)) (hby : by_ ≤ 1000)
    (hg : o.guard = none) (l c : Operand) (hop : o.op = Op.makeSlice T l c) (C : Int) (n : Nat) (hl : a.eval l = .int .i64 C) (hc : a.eval c = .int .i64 C) (hC : C = (n : Int)) (hn : n ≤ 100000000)
    (hK : ∀ w', rowZ w' w.heap.size (n * sz) → w.grownBy w' none → w.heap.size < w'.heap.size → wpList Try.prog ops Q rest (a.put o.dst (.slice (some ⟨w.heap.size, 0, none⟩) n n)) w') :
    wpList Try.prog ops Q (o :: rest) a w := by
  obtain ⟨i0, hi, hz0, hz1, hz2⟩ := info_parts hi0
  have hmul : by_ * n ≤ 1000 * n := Nat.mul_le_mul_right _ hby
  refine wpList_make_full w hg l c T hop w.heap.size E i0 Z sz hu hi hz0 hz1 .i64 .i64 C C n hl hc hC hC (by rw [hz2]; omega) (by unfold maxLen; omega) (Nat.le_refl _) ?_
  intro w' ho hgr
  refine hK w' ⟨fun t ht => ?_, fun t => World.ownsRow.frozenAt ho t⟩ hgr (World.ownsRow.lt ho _ rfl).2
  rw [World.ownsRow.cellAt ho t (by omega)]
  have hlen : (madeCells Z.cells (n * sz)).toList.length = n * sz := ho.1
  exact ⟨_, List.getElem?_eq_getElem (by omega)⟩
/-- values put into the cells from p on -/
def setRow (W : World) (g : Nat) : Nat → List Value → World
  | _, [] => W
  | p, v :: vs => setRow (W.setCell ⟨g, p, none⟩ v) g (p + 1) vs
theorem setRow_other (g : Nat) : ∀ (vs : List Value) (W : World) (p t : Nat), (t < p ∨ p + vs.length ≤ t) → (setRow W g p vs).cell? ⟨g, t, none⟩ = W.cell? ⟨g, t, none⟩ := by
  intro vs
  induction vs with
  | nil => intro W p t _; rfl
  | cons v vs ih =>
    intro W p t h
    simp only [List.length_cons] at h
    show (setRow (W.setCell ⟨g, p, none⟩ v) g (p + 1) vs).cell? _ = _
    rw [ih _ (p + 1) t (by omega), World.cell?_setCell_other _ _ _ _ (by intro e; simp at e; try omega)]
theorem setRow_block (g : Nat) (b : Nat) (hb : b ≠ g) : ∀ (vs : List Value) (W : World) (p : Nat), (setRow W g p vs).heap[b]? = W.heap[b]? := by
  intro vs
  induction vs with
  | nil => intro W p; rfl
  | cons v vs ih => intro W p; exact (ih _ (p + 1)).trans (heap_setCell_other W ⟨g, p, none⟩ b v hb)
theorem setRow_frozen (g : Nat) (q : Addr) : ∀ (vs : List Value) (W : World) (p : Nat), (setRow W g p vs).frozen? q = W.frozen? q := by
  intro vs
  induction vs with
  | nil => intro W p; rfl
  | cons v vs ih => intro W p; rw [setRow, ih, World.frozen?_setCell]
theorem setRow_below (g B : Nat) (hB : B ≤ g) (w0 : World) : ∀ (vs : List Value) (W : World) (p : Nat), Below B w0 W → Below B w0 (setRow W g p vs) := by
  intro vs
  induction vs with
  | nil => intro W p h; exact h
  | cons v vs ih => intro W p h; exact ih _ _ (h.setCell (p := ⟨g, p, none⟩) (by simpa using hB) v)
theorem setRow_at (g : Nat) : ∀ (vs : List Value) (W : World) (p t : Nat) (ht : t < vs.length), (∃ u, W.cell? ⟨g, p + t, none⟩ = some u) → (setRow W g p vs).cell? ⟨g, p + t, none⟩ = some vs[t] := by
  intro vs
  induction vs with
  | nil => intro W p t ht; cases ht
  | cons v vs ih =>
    intro W p t ht hu
    cases t with
    | zero =>
      obtain ⟨u, hu⟩ := hu
      show (setRow (W.setCell ⟨g, p, none⟩ v) g (p + 1) vs).cell? ⟨g, p, none⟩ = some v
      rw [setRow_other g vs _ (p + 1) p (by omega)]
      exact World.cell?_setCell_same _ _ _ hu
    | succ t =>
      have e : p + (t + 1) = p + 1 + t := by omega
      rw [e] at hu ⊢
      refine ih _ (p + 1) t (by simpa using ht) ?_
      rw [World.cell?_setCell_other _ _ _ _ (by intro e2; simp at e2; try omega)]
      exact hu
theorem setRow_size (g : Nat) : ∀ (vs : List Value) (W : World) (p : Nat), (setRow W g p vs).heap.size = W.heap.size := by
  intro vs
  induction vs with
  | nil => intro W p; rfl
  | cons v vs ih => intro W p; rw [setRow, ih]; simp
theorem rowZ.put {w : World} {g N : Nat} (h : rowZ w g N) (vs : List Value) (p : Nat) (_hp : p + vs.length ≤ N) : rowZ (setRow w g p vs) g N := by
  refine ⟨fun t ht => ?_, fun t => by rw [setRow_frozen]; exact h.free t⟩
  by_cases h1 : t < p ∨ p + vs.length ≤ t
  · rw [setRow_other g vs w p t h1]; exact h.cell t ht
  · have e : t = p + (t - p) := by omega
    have := setRow_at g vs w p (t - p) (by omega) (by rw [← e]; exact h.cell t ht)
    rw [← e] at this
    exact ⟨_, this⟩
theorem rowZ.below {w w' : World} {g N : Nat} (h : rowZ w g N) (hb : Below w.heap.size w w') (hg : g < w.heap.size) : rowZ w' g N :=
  ⟨fun t ht => by obtain ⟨v, hv⟩ := h.cell t ht; exact ⟨v, (hb.cell (by exact hg)).trans hv⟩, fun t => (hb.frozen (by exact hg)).trans (h.free t)⟩
theorem at3.keep {w : World} {g o : Nat} {b : R3} (h : at3 w g o b) (vs : List Value) (p : Nat) (hp : o + 3 ≤ p ∨ p + vs.length ≤ o) : at3 (setRow w g p vs) g o b :=
  ⟨(setRow_other g vs w p o (by omega)).trans h.c0, (setRow_other g vs w p (o + 1) (by omega)).trans h.c1, (setRow_other g vs w p (o + 2) (by omega)).trans h.c2⟩
theorem at3.new {w : World} {g N : Nat} (h : rowZ w g N) (p : Nat) (hp : p + 3 ≤ N) (b : R3) : at3 (setRow w g p [.bool b.e, .int .u32 b.m, .int .u32 b.k]) g p b :=
  ⟨setRow_at g _ w p 0 (by simp) (h.cell p (by omega)), setRow_at g _ w p 1 (by simp) (h.cell (p + 1) (by omega)), setRow_at g _ w p 2 (by simp) (h.cell (p + 2) (by omega))⟩
/-- what holds of the blocks from B on, whatever becomes of those below -/
def St (B : Nat) (w : World) (p : World → Prop) : Prop := ∀ W, (∀ k, B ≤ k → k < w.heap.size → W.heap[k]? = w.heap[k]?) → p W
theorem St.now {B : Nat} {w : World} {p : World → Prop} (h : St B w p) : p w := h w fun _ _ _ => rfl
theorem St.below {B : Nat} {w w' : World} {p : World → Prop} (h : St B w p) (hb : Below w.heap.size w w') : St B w' p := fun W hW => h W fun k h1 h2 => (hW k h1 (Nat.lt_of_lt_of_le h2 hb.size)).trans (hb.block k h2)
theorem St.set {B : Nat} {w : World} {p : World → Prop} (h : St B w p) (b j : Nat) (hb : b < B) (v : Value) : St B (w.setCell ⟨b, j, none⟩ v) p := fun W hW => h W fun k h1 h2 => (hW k h1 (by simpa using h2)).trans (heap_setCell_other w ⟨b, j, none⟩ k v (by show k ≠ b; omega))
theorem St.mono {B B' : Nat} {w : World} {p : World → Prop} (h : St B w p) (hB : B' ≤ B) : St B' w p := fun W hW => h W fun k h1 h2 => hW k (by omega) h2
theorem cell_up {W w : World} {g o : Nat} {v : Value} (h : w.cell? ⟨g, o, none⟩ = some v) (he : W.heap[g]? = w.heap[g]?) : W.cell? ⟨g, o, none⟩ = some v := by
  simp only [World.cell?, he] at h ⊢
  exact h
theorem at3.up {W w : World} {g o : Nat} {b : R3} (h : at3 w g o b) (he : W.heap[g]? = w.heap[g]?) : at3 W g o b := ⟨cell_up h.c0 he, cell_up h.c1 he, cell_up h.c2 he⟩
theorem rowZ.F {w : World} {g N : Nat} (h : rowZ w g N) : rowF w g N := fun t ht => ⟨h.cell t ht, h.free t⟩
/-- a record of 5 cells, the last one the slice of its bytes -/
structure R5 where
  e : Bool
  i : Nat
  r : Bool
  d : Int
  l : List Nat
structure at5 (w : World) (g o : Nat) (b : R5) (ao : Option Addr) (m c : Nat) : Prop where
  c0 : w.cell? ⟨g, o, none⟩ = some (.bool b.e)
  c1 : w.cell? ⟨g, o + 1, none⟩ = some (.int .u32 (b.i : Int))
  c2 : w.cell? ⟨g, o + 2, none⟩ = some (.bool b.r)
  c3 : w.cell? ⟨g, o + 3, none⟩ = some (.int .i64 b.d)
  cs : w.cell? ⟨g, o + 4, none⟩ = some (.slice ao m c)
  dat : isBytes w ao m c b.l
structure isR5s (w : World) (a : Option Addr) (n cap : Nat) (bs : List R5) : Prop where
  len : n = bs.length
  cap : n ≤ cap
  cells : bs ≠ [] → ∃ g off, a = some ⟨g, off, none⟩ ∧ ∀ j (h : j < bs.length), ∃ ao m c, at5 w g (off + j * 5) bs[j] ao m c
theorem at5.below {w w' : World} {g o : Nat} {b : R5} {ao : Option Addr} {m c : Nat} (h : at5 w g o b ao m c) (hb : Below w.heap.size w w') : at5 w' g o b ao m c := by
  have hg := World.block_lt_of_cell? w _ h.c0
  exact ⟨(hb.cell (by exact hg)).trans h.c0, (hb.cell (by exact hg)).trans h.c1, (hb.cell (by exact hg)).trans h.c2, (hb.cell (by exact hg)).trans h.c3, (hb.cell (by exact hg)).trans h.cs, h.dat.below hb⟩
theorem isR5s.below {w w' : World} {a : Option Addr} {n cap : Nat} {bs : List R5} (h : isR5s w a n cap bs) (hb : Below w.heap.size w w') : isR5s w' a n cap bs := by
  refine ⟨h.len, h.cap, fun hl => ?_⟩
  obtain ⟨g, off, ha, hc⟩ := h.cells hl
  exact ⟨g, off, ha, fun j hj => by obtain ⟨ao, m, c, hat⟩ := hc j hj; exact ⟨ao, m, c, hat.below hb⟩⟩
theorem at5.up {W w : World} {g o : Nat} {b : R5} {gd m c : Nat} (h : at5 w g o b (some ⟨gd, 0, none⟩) m c) (he : W.heap[g]? = w.heap[g]?) (hd : W.heap[gd]? = w.heap[gd]?) : at5 W g o b (some ⟨gd, 0, none⟩) m c :=
  ⟨cell_up h.c0 he, cell_up h.c1 he, cell_up h.c2 he, cell_up h.c3 he, cell_up h.cs he, h.dat.other hd⟩
theorem at5.keep {w : World} {g o : Nat} {b : R5} {gd m c : Nat} (h : at5 w g o b (some ⟨gd, 0, none⟩) m c) (hne : gd ≠ g) (vs : List Value) (p : Nat) (hp : o + 5 ≤ p ∨ p + vs.length ≤ o) : at5 (setRow w g p vs) g o b (some ⟨gd, 0, none⟩) m c :=
  ⟨(setRow_other g vs w p (o) (by omega)).trans h.c0, (setRow_other g vs w p (o + 1) (by omega)).trans h.c1, (setRow_other g vs w p (o + 2) (by omega)).trans h.c2, (setRow_other g vs w p (o + 3) (by omega)).trans h.c3, (setRow_other g vs w p (o + 4) (by omega)).trans h.cs, h.dat.other (setRow_block g gd hne vs w p)⟩
theorem at5.new {w : World} {g M : Nat} (h : rowZ w g M) (p : Nat) (hp : p + 5 ≤ M) (b : R5) (gd m : Nat) (hne : gd ≠ g) (hd : isBytes w (some ⟨gd, 0, none⟩) m m b.l) : at5 (setRow w g p [.bool b.e, .int .u32 (b.i : Int), .bool b.r, .int .i64 b.d, .slice (some ⟨gd, 0, none⟩) m m]) g p b (some ⟨gd, 0, none⟩) m m :=
  ⟨setRow_at g _ w p 0 (by simp) (h.cell (p + 0) (by omega)), setRow_at g _ w p 1 (by simp) (h.cell (p + 1) (by omega)), setRow_at g _ w p 2 (by simp) (h.cell (p + 2) (by omega)), setRow_at g _ w p 3 (by simp) (h.cell (p + 3) (by omega)), setRow_at g _ w p 4 (by simp) (h.cell (p + 4) (by omega)), hd.other (setRow_block g gd hne _ w p)⟩
/-- a record of 8 cells, the last one the slice of its bytes -/
structure R8 where
  x : Int
  y : Int
  z : Int
  e : Bool
  i : Nat
  r : Bool
  d : Int
  l : List Nat
structure at8 (w : World) (g o : Nat) (b : R8) (ao : Option Addr) (m c : Nat) : Prop where
  c0 : w.cell? ⟨g, o, none⟩ = some (.int .i64 b.x)
  c1 : w.cell? ⟨g, o + 1, none⟩ = some (.int .i64 b.y)
  c2 : w.cell? ⟨g, o + 2, none⟩ = some (.int .i64 b.z)
  c3 : w.cell? ⟨g, o + 3, none⟩ = some (.bool b.e)
  c4 : w.cell? ⟨g, o + 4, none⟩ = some (.int .u32 (b.i : Int))
  c5 : w.cell? ⟨g, o + 5, none⟩ = some (.bool b.r)
  c6 : w.cell? ⟨g, o + 6, none⟩ = some (.int .i64 b.d)
  cs : w.cell? ⟨g, o + 7, none⟩ = some (.slice ao m c)
  dat : isBytes w ao m c b.l
structure isR8s (w : World) (a : Option Addr) (n cap : Nat) (bs : List R8) : Prop where
  len : n = bs.length
  cap : n ≤ cap
  cells : bs ≠ [] → ∃ g off, a = some ⟨g, off, none⟩ ∧ ∀ j (h : j < bs.length), ∃ ao m c, at8 w g (off + j * 8) bs[j] ao m c
theorem at8.below {w w' : World} {g o : Nat} {b : R8} {ao : Option Addr} {m c : Nat} (h : at8 w g o b ao m c) (hb : Below w.heap.size w w') : at8 w' g o b ao m c := by
  have hg := World.block_lt_of_cell? w _ h.c0
  exact ⟨(hb.cell (by exact hg)).trans h.c0, (hb.cell (by exact hg)).trans h.c1, (hb.cell (by exact hg)).trans h.c2, (hb.cell (by exact hg)).trans h.c3, (hb.cell (by exact hg)).trans h.c4, (hb.cell (by exact hg)).trans h.c5, (hb.cell (by exact hg)).trans h.c6, (hb.cell (by exact hg)).trans h.cs, h.dat.below hb⟩
theorem isR8s.below {w w' : World} {a : Option Addr} {n cap : Nat} {bs : List R8} (h : isR8s w a n cap bs) (hb : Below w.heap.size w w') : isR8s w' a n cap bs := by
  refine ⟨h.len, h.cap, fun hl => ?_⟩
  obtain ⟨g, off, ha, hc⟩ := h.cells hl
  exact ⟨g, off, ha, fun j hj => by obtain ⟨ao, m, c, hat⟩ := hc j hj; exact ⟨ao, m, c, hat.below hb⟩⟩
theorem at8.up {W w : World} {g o : Nat} {b : R8} {gd m c : Nat} (h : at8 w g o b (some ⟨gd, 0, none⟩) m c) (he : W.heap[g]? = w.heap[g]?) (hd : W.heap[gd]? = w.heap[gd]?) : at8 W g o b (some ⟨gd, 0, none⟩) m c :=
  ⟨cell_up h.c0 he, cell_up h.c1 he, cell_up h.c2 he, cell_up h.c3 he, cell_up h.c4 he, cell_up h.c5 he, cell_up h.c6 he, cell_up h.cs he, h.dat.other hd⟩
theorem at8.keep {w : World} {g o : Nat} {b : R8} {gd m c : Nat} (h : at8 w g o b (some ⟨gd, 0, none⟩) m c) (hne : gd ≠ g) (vs : List Value) (p : Nat) (hp : o + 8 ≤ p ∨ p + vs.length ≤ o) : at8 (setRow w g p vs) g o b (some ⟨gd, 0, none⟩) m c :=
  ⟨(setRow_other g vs w p (o) (by omega)).trans h.c0, (setRow_other g vs w p (o + 1) (by omega)).trans h.c1, (setRow_other g vs w p (o + 2) (by omega)).trans h.c2, (setRow_other g vs w p (o + 3) (by omega)).trans h.c3, (setRow_other g vs w p (o + 4) (by omega)).trans h.c4, (setRow_other g vs w p (o + 5) (by omega)).trans h.c5, (setRow_other g vs w p (o + 6) (by omega)).trans h.c6, (setRow_other g vs w p (o + 7) (by omega)).trans h.cs, h.dat.other (setRow_block g gd hne vs w p)⟩
theorem at8.new {w : World} {g M : Nat} (h : rowZ w g M) (p : Nat) (hp : p + 8 ≤ M) (b : R8) (gd m : Nat) (hne : gd ≠ g) (hd : isBytes w (some ⟨gd, 0, none⟩) m m b.l) : at8 (setRow w g p [.int .i64 b.x, .int .i64 b.y, .int .i64 b.z, .bool b.e, .int .u32 (b.i : Int), .bool b.r, .int .i64 b.d, .slice (some ⟨gd, 0, none⟩) m m]) g p b (some ⟨gd, 0, none⟩) m m :=
  ⟨setRow_at g _ w p 0 (by simp) (h.cell (p + 0) (by omega)), setRow_at g _ w p 1 (by simp) (h.cell (p + 1) (by omega)), setRow_at g _ w p 2 (by simp) (h.cell (p + 2) (by omega)), setRow_at g _ w p 3 (by simp) (h.cell (p + 3) (by omega)), setRow_at g _ w p 4 (by simp) (h.cell (p + 4) (by omega)), setRow_at g _ w p 5 (by simp) (h.cell (p + 5) (by omega)), setRow_at g _ w p 6 (by simp) (h.cell (p + 6) (by omega)), setRow_at g _ w p 7 (by simp) (h.cell (p + 7) (by omega)), hd.other (setRow_block g gd hne _ w p)⟩
/-- n records of 5 cells that may be written, and their bytes too; all lie from B on and below T -/
structure wr5 (B T : Nat) (W : World) (g n : Nat) : Prop where
  row : rowF W g (n * 5)
  lo : B ≤ g
  hi : g < T
  dat : ∀ j, j < n → ∃ gd m, W.cell? ⟨g, j * 5 + 4, none⟩ = some (.slice (some ⟨gd, 0, none⟩) m m) ∧ rowF W gd m ∧ gd ≠ g ∧ B ≤ gd ∧ gd < T
theorem wr5.mono {B T B' T' : Nat} {W : World} {g n : Nat} (h : wr5 B T W g n) (hB : B' ≤ B) (hT : T ≤ T') : wr5 B' T' W g n :=
  ⟨h.row, by have := h.lo; omega, by have := h.hi; omega, fun j hj => by obtain ⟨gd, m, h1, h2, h3, h4, h5⟩ := h.dat j hj; exact ⟨gd, m, h1, h2, h3, by omega, by omega⟩⟩
theorem Try.info34 : (Try.prog.info? 34).map (fun i => (i.zero, i.size, i.bytes)) = some (some (.agg #[.bool false, .int .u32 0, .bool false, .int .i64 0, .slice none 0 0]), 5, 48) := by kernel_rfl
theorem setCells_row (g : Nat) : ∀ (vs : List Value) (w : World) (p : Nat), w.setCells g p vs = setRow w g p vs := by
  intro vs
  induction vs with
  | nil => intro w p; rfl
  | cons v vs ih => intro w p; exact ih _ (p + 1)
theorem rowZ.there {w : World} {g N : Nat} (h : rowZ w g N) (p n : Nat) (hp : p + n ≤ N) : w.there g p n := fun j hj => by
  obtain ⟨v, hv⟩ := h.cell (p + j) (by omega)
  exact ⟨by rw [hv]; rfl, h.free _⟩
theorem one8 (x y z : Int) (e : Bool) (i : Int) (r : Bool) (d : Int) (a : Option Addr) (n c : Nat) : (#[.int .i64 x, .int .i64 y, .int .i64 z, .bool e, .int .u32 i, .bool r, .int .i64 d, .slice a n c] : Array Value).all (·.oneCell') = true :=
  all_oneCell_toArray (by simp [Value.oneCell'])
/-- n records of 8 cells that may be written, and their bytes too; all lie from B on and below T -/
structure wr8 (B T : Nat) (W : World) (g n : Nat) : Prop where
  row : rowF W g (n * 8)
  lo : B ≤ g
  hi : g < T
  dat : ∀ j, j < n → ∃ gd m, W.cell? ⟨g, j * 8 + 7, none⟩ = some (.slice (some ⟨gd, 0, none⟩) m m) ∧ rowF W gd m ∧ gd ≠ g ∧ B ≤ gd ∧ gd < T
theorem wr8.mono {B T B' T' : Nat} {W : World} {g n : Nat} (h : wr8 B T W g n) (hB : B' ≤ B) (hT : T ≤ T') : wr8 B' T' W g n :=
  ⟨h.row, by have := h.lo; omega, by have := h.hi; omega, fun j hj => by obtain ⟨gd, m, h1, h2, h3, h4, h5⟩ := h.dat j hj; exact ⟨gd, m, h1, h2, h3, by omega, by omega⟩⟩
theorem setCells_block (b : Nat) (t : TypeId) : ∀ (vs old pre post : List Value) (w : World), old.length = vs.length → w.heap[b]? = some (.cells (pre ++ old ++ post).toArray t (0, 0)) → (w.setCells b pre.length vs).heap[b]? = some (.cells (pre ++ vs ++ post).toArray t (0, 0)) := by
  intro vs
  induction vs with
  | nil =>
    intro old pre post w hl h
    have : old = [] := List.length_eq_zero_iff.1 hl
    subst this
    exact h
  | cons v vs ih =>
    intro old pre post w hl h
    match old, hl with
    | o :: old', hl =>
      have h1 := heap_setCell_same w b pre.length _ _ v h
      have e : (pre ++ o :: old' ++ post).toArray.setIfInBounds pre.length v = ((pre ++ [v]) ++ old' ++ post).toArray := by simp
      have h2 := ih old' (pre ++ [v]) post (w.setCell ⟨b, pre.length, none⟩ v) (by simpa using hl) (by rw [← e]; exact h1)
      rw [List.length_append, List.length_singleton] at h2
      rw [List.append_assoc pre [v] vs] at h2
      exact h2
theorem range_block {w : World} {b : Nat} {l : List Value} {t : TypeId} {fr : Nat × Nat} (h : w.heap[b]? = some (.cells l.toArray t fr)) : w.rangeAt b 0 l := fun j v hv => by
  simp [World.cell?, h, hv]
theorem there_block {w : World} {b : Nat} {l : List Value} {t : TypeId} (h : w.heap[b]? = some (.cells l.toArray t (0, 0))) (o n : Nat) (ho : o + n ≤ l.length) : w.there b o n := fun j hj => by
  refine ⟨?_, ?_⟩
  · have : o + j < l.length := by omega
    simp [World.cell?, h, this]
  · simp [World.frozen?, h]
theorem setCells_other (b k : Nat) (hk : k ≠ b) (vs : List Value) (w : World) (o : Nat) : (w.setCells b o vs).heap[k]? = w.heap[k]? := by
  rw [setCells_row]; exact setRow_block b k hk vs w o
theorem St.setCells {B : Nat} {w : World} {p : World → Prop} (h : St B w p) (b o : Nat) (hb : b < B) (vs : List Value) : St B (w.setCells b o vs) p := fun W hW => h W fun k h1 h2 => (hW k h1 (by rw [setCells_row, setRow_size]; exact h2)).trans (setCells_other b k (by omega) vs w o)
theorem one10 (c0 c1 c2 c3 : Int) (b1 : Option Addr) (m1 l1 : Nat) (b2 : Option Addr) (m2 l2 : Nat) (b3 : Option Addr) (m3 l3 : Nat) (b4 : Option Addr) (m4 l4 : Nat) (lo st : Int) : (#[.int .i64 c0, .int .i64 c1, .int .i64 c2, .int .i64 c3, .slice b1 m1 l1, .slice b2 m2 l2, .slice b3 m3 l3, .slice b4 m4 l4, .int .i64 lo, .int .i64 st] : Array Value).all (·.oneCell') = true :=
  all_oneCell_toArray (by simp [Value.oneCell'])
theorem lt_of_some {w : World} {g : Nat} {o : Obj} (hg : w.heap[g]? = some o) : g < w.heap.size := by
  rcases Nat.lt_or_ge g w.heap.size with h | h
  · exact h
  · rw [Array.getElem?_eq_none h] at hg; cases hg
/-- a row that the call made, as a slice of its own -/
theorem own_slice {w : World} {B n E sz : Nat} {v : Value} {xs : List Value} (ho : w.ownsRow B E sz v n xs) (hv : v ≠ .slice none 0 0) :
    ∃ g cap, v = .slice (some ⟨g, 0, none⟩) n cap ∧ B ≤ g ∧ g < w.heap.size ∧ n ≤ cap ∧ ∀ W : World, W.heap[g]? = w.heap[g]? → ∀ t, t < n * sz → W.cell? ⟨g, t, none⟩ = xs[t]? := by
  rcases ho.2 with ⟨e, _⟩ | ⟨g, cap, cur, hv', hb, hg, hcp, hmx, hsz, htk⟩
  · exact absurd e hv
  · refine ⟨g, cap, hv', hb, lt_of_some hg, hcp, fun W hW t ht => ?_⟩
    have hcur : cur[t]? = xs[t]? := by rw [← htk, List.getElem?_take_of_lt ht, Array.getElem?_toList]
    have e : W.heap[g]? = some (.cells cur E (0, 0)) := hW.trans hg
    rw [← hcur]
    simp [World.cell?, e]
theorem ownsB_bytes {w : World} {B : Nat} {v : Value} {l : List Nat} (h : ownsB w B v l) (hv : v ≠ .slice none 0 0) (hl : ∀ x ∈ l, x < 256) :
    ∃ g k, v = .slice (some ⟨g, 0, none⟩) l.length k ∧ B ≤ g ∧ g < w.heap.size ∧ St B w (fun W => isBytes W (some ⟨g, 0, none⟩) l.length k l) := by
  obtain ⟨g, cap, rfl, h1, h2, h3, h4⟩ := own_slice h hv
  refine ⟨g, cap, rfl, h1, h2, fun W hW => ⟨rfl, h3, hl, fun _ => ⟨g, 0, rfl, fun j hj => ?_⟩⟩⟩
  rw [Nat.zero_add, h4 W (hW g h1 h2) j (by omega), bv_at l j hj]
end Go.Proofs.Ytiaddabmiponoaa
