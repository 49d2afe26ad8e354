import Derived.Test.YtihndnclplkleaaIJ
namespace Go.Proofs.Ytihndnclplkleaa
open Go.RowKit
theorem make_Zc {ops : Array Oper} {rest : List Oper} {o : Oper} {a : Act} {Q : Exit → Act → World → Prop} (w : World) (T E : TypeId) (Z : Value) (sz by_ : Nat) (hi0 : (Try.prog.info? E).map (fun i => (i.zero, i.size, i.bytes)) = some (some Z, sz, by_)) (hu : Try.prog.underlying T = some (.slice E)) (hby : by_ ≤ 1000)
    (hg : o.guard = none) (l c : Operand) (hop : o.op = Op.makeSlice T l c) (C : Int) (n : Nat) (hl : a.eval l = .int .i64 C) (hc : a.eval c = .int .i64 C) (hC : C = (n : Int)) (hn : n ≤ 100000000)
    (hK : ∀ w', rowZ w' w.heap.size (n * sz) → (∀ t, t < n * sz → w'.cell? ⟨w.heap.size, t, none⟩ = some Z.cells[t % Z.cells.size]!) → w.grownBy w' none → w.heap.size < w'.heap.size → wpList Try.prog ops Q rest (a.put o.dst (.slice (some ⟨w.heap.size, 0, none⟩) n n)) w') :
    wpList Try.prog ops Q (o :: rest) a w := by
  obtain ⟨i0, hi, hz0, hz1, hz2⟩ := info_parts hi0
  have hmul : by_ * n ≤ 1000 * n := Nat.mul_le_mul_right _ hby
  refine wpList_make_full w hg l c T hop w.heap.size E i0 Z sz hu hi hz0 hz1 .i64 .i64 C C n hl hc hC hC (by rw [hz2]; omega) (by unfold maxLen; omega) (Nat.le_refl _) ?_
  intro w' ho hgr
  have hcell : ∀ t, t < n * sz → w'.cell? ⟨w.heap.size, t, none⟩ = some Z.cells[t % Z.cells.size]! := by
    intro t ht
    rw [World.ownsRow.cellAt ho t (by omega), Array.getElem?_toList]
    simp [madeCells, ht]
  exact hK w' ⟨fun t ht => ⟨_, hcell t ht⟩, fun t => World.ownsRow.frozenAt ho t⟩ hcell hgr (World.ownsRow.lt ho _ rfl).2
/-- the empty box -/
def bx0 : R8 := ⟨0, 0, 0, false, 0, false, 0, []⟩
abbrev bxZ : Value := .agg #[.int .i64 0, .int .i64 0, .int .i64 0, .bool false, .int .u32 0, .bool false, .int .i64 0, .slice none 0 0]
theorem zero_boxes {w : World} {g n : Nat} (h : ∀ t, t < n * 8 → w.cell? ⟨g, t, none⟩ = some bxZ.cells[t % bxZ.cells.size]!) (j : Nat) (hj : j < n) : at8 w g (j * 8) bx0 none 0 0 := by
  have e : ∀ r, r < 8 → w.cell? ⟨g, j * 8 + r, none⟩ = some bxZ.cells[r]! := fun r hr => by
    have := h (j * 8 + r) (by omega)
    rw [show bxZ.cells.size = 8 from rfl, show (j * 8 + r) % 8 = r by omega] at this
    exact this
  exact ⟨e 0 (by omega), e 1 (by omega), e 2 (by omega), e 3 (by omega), e 4 (by omega), e 5 (by omega), e 6 (by omega), e 7 (by omega), ⟨rfl, Nat.le_refl _, fun _ hx => (by cases hx), fun hne => absurd rfl hne⟩⟩
set_option maxHeartbeats 4000000 in
set_option maxRecDepth 20000 in
theorem newHost_bad1 (w : World) (a b c d : Int) (v : Value) (h : okCf a b c d = false) :
    Calls Try.prog 15 #[cfV a b c d, v] w fun o w' => o = .returned (.tuple #[hoV ⟨0, 0, 0, 0, [], [], [], [], 0, 0⟩ ⟨none, 0, 0, none, 0, 0, none, 0, 0, none, 0, 0⟩, .int .i64 1]) ∧ Below w.heap.size w w' := by
  have HE : Hid (∀ W, Calls Try.prog 41 #[cfV a b c d] W fun o w' => o = .returned (.bool false) ∧ Below W.heap.size W w') := fun W => by have := validConfig_any W a b c d; rw [h] at this; exact this
  clear h
  go_enter Try.func15, Try.ntmps15
  go_wp2_with (first | (go_at_call 41; refine (HE.out _).mono ?_; rintro o w1 ⟨rfl, hb1⟩; have cp1 := fun o => hb1.cell (p := ⟨w.heap.size + 1, o, none⟩) (by simp; try omega); have fr1 := fun o => hb1.frozen (p := ⟨w.heap.size + 1, o, none⟩) (by simp; try omega); have cq1 := fun o => hb1.cell (p := ⟨w.heap.size, o, none⟩) (by simp; try omega); have HB1 : Hid _ := hb1; clear hb1))
  refine bodyPost_ret (v := .tuple #[hoV ⟨0, 0, 0, 0, [], [], [], [], 0, 0⟩ ⟨none, 0, 0, none, 0, 0, none, 0, 0, none, 0, 0⟩, .int .i64 1]) (by simp [results, Try.results15, go_sem, cp1]) rfl ?_
  refine ⟨rfl, ?_⟩
  (repeat refine Below.setCell ?_ (by simp; try omega) _)
  exact (((Below.refl _ _).alloc (Nat.le_refl _) _).alloc (by simp) _).trans (HB1.out.mono (by simp; try omega))
end Go.Proofs.Ytihndnclplkleaa
