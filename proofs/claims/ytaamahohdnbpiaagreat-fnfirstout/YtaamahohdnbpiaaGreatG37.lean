import Derived.Test.YtaamahohdnbpiaaGreatTB
namespace Go.Proofs.YtaamahohdnbpiaaGreat
open Go.RowKit
set_option linter.unusedVariables false
structure gfI (w0 wS : World) (b : Nat) (a : Option Addr) (n cap : Nat) (l : List Nat) (i F R : Nat) (e : Bool) (id : Nat) (r : Bool) (d : Int) (v : Value) (dl : List Nat) (W : World) : Prop where
  src : srcI w0 b a n cap l i W
  gb : wS.grownBy W (some b)
  fr : W.heap[F]? = some (.cells #[.bool e, .int .u32 (id : Int), .bool r, .int .i64 d, v] 25 (0, 0))
  res : W.heap[R]? = some (.cells #[.bool false, .int .u32 0, .bool false, .int .i64 0, .slice none 0 0] 25 (0, 0))
  own : ownsB W wS.heap.size v dl
  ne : v.ownBlock ≠ some F ∧ v.ownBlock ≠ some R
  dis : F ≠ R ∧ b < wS.heap.size ∧ wS.heap.size ≤ F ∧ wS.heap.size ≤ R
theorem gfI.cells {w0 wS : World} {b : Nat} {a : Option Addr} {n cap : Nat} {l : List Nat} {i F R : Nat} {e : Bool} {id : Nat} {r : Bool} {d : Int} {v : Value} {dl : List Nat} {W : World} (h : gfI w0 wS b a n cap l i F R e id r d v dl W) :
    W.cell? ⟨F, 0, none⟩ = some (.bool e) ∧ W.cell? ⟨F, 1, none⟩ = some (.int .u32 (id : Int)) ∧ W.cell? ⟨F, 2, none⟩ = some (.bool r) ∧ W.cell? ⟨F, 3, none⟩ = some (.int .i64 d) ∧ W.cell? ⟨F, 4, none⟩ = some v ∧
    W.frozen? ⟨F, 0, none⟩ = false ∧ W.frozen? ⟨F, 1, none⟩ = false ∧ W.frozen? ⟨F, 2, none⟩ = false ∧ W.frozen? ⟨F, 3, none⟩ = false ∧ W.frozen? ⟨F, 4, none⟩ = false := by
  have hr := h.fr
  refine ⟨?_, ?_, ?_, ?_, ?_, ?_, ?_, ?_, ?_, ?_⟩ <;> simp [World.cell?, World.frozen?, hr]
theorem gfI.cellsR {w0 wS : World} {b : Nat} {a : Option Addr} {n cap : Nat} {l : List Nat} {i F R : Nat} {e : Bool} {id : Nat} {r : Bool} {d : Int} {v : Value} {dl : List Nat} {W : World} (h : gfI w0 wS b a n cap l i F R e id r d v dl W) :
    W.cell? ⟨R, 0, none⟩ = some (.bool false) ∧ W.cell? ⟨R, 1, none⟩ = some (.int .u32 0) ∧ W.cell? ⟨R, 2, none⟩ = some (.bool false) ∧ W.cell? ⟨R, 3, none⟩ = some (.int .i64 0) ∧ W.cell? ⟨R, 4, none⟩ = some (.slice none 0 0) ∧
    W.frozen? ⟨R, 0, none⟩ = false ∧ W.frozen? ⟨R, 1, none⟩ = false ∧ W.frozen? ⟨R, 2, none⟩ = false ∧ W.frozen? ⟨R, 3, none⟩ = false ∧ W.frozen? ⟨R, 4, none⟩ = false := by
  have hr := h.res
  refine ⟨?_, ?_, ?_, ?_, ?_, ?_, ?_, ?_, ?_, ?_⟩ <;> simp [World.cell?, World.frozen?, hr]
theorem gfI.step {w0 wS : World} {b : Nat} {a : Option Addr} {n cap : Nat} {l : List Nat} {i i' F R : Nat} {e : Bool} {id : Nat} {r : Bool} {d : Int} {v : Value} {dl : List Nat} {W W' : World} (h : gfI w0 wS b a n cap l i F R e id r d v dl W)
    (hs : srcI w0 b a n cap l i' W') (hg : W.grownBy W' (some b)) : gfI w0 wS b a n cap l i' F R e id r d v dl W' := by
  obtain ⟨d1, d2, d3, d4⟩ := h.dis
  exact ⟨hs, gb_trans h.gb hg, (hg.block F (lt_of_block h.fr) (by simp; omega)).trans h.fr, (hg.block R (lt_of_block h.res) (by simp; omega)).trans h.res, h.own.gb hg d2, h.ne, h.dis⟩
theorem gb_setF {w0 W : World} {b F : Nat} (h : w0.grownBy W (some b)) (hF : w0.heap.size ≤ F) (j : Nat) (x : Value) : w0.grownBy (W.setCell ⟨F, j, none⟩ x) (some b) :=
  gb_below h ((Below.refl _ _).setCell (by exact hF) x)
theorem gf_own {W : World} {B F : Nat} {v : Value} {l : List Nat} (j : Nat) (x : Value) (h : ownsB W B v l) (hne : v.ownBlock ≠ some F) : ownsB (W.setCell ⟨F, j, none⟩ x) B v l := by
  refine h.otherBlock (fun i hi => heap_setCell_other W ⟨F, j, none⟩ i x (fun e => ?_))
  have e' : i = F := e
  exact hne (e' ▸ hi)
theorem gfI.setAny {w0 wS : World} {b : Nat} {a : Option Addr} {n cap : Nat} {l : List Nat} {i F R : Nat} {e : Bool} {id : Nat} {r : Bool} {d : Int} {v : Value} {dl : List Nat} {W : World} (h : gfI w0 wS b a n cap l i F R e id r d v dl W) (j : Nat) (x : Value) (e' : Bool) (id' : Nat) (r' : Bool) (d' : Int)
    (hx : (#[.bool e, .int .u32 (id : Int), .bool r, .int .i64 d, v] : Array Value).set! j x = #[.bool e', .int .u32 (id' : Int), .bool r', .int .i64 d', v]) : gfI w0 wS b a n cap l i F R e' id' r' d' v dl (W.setCell ⟨F, j, none⟩ x) := by
  obtain ⟨d1, d2, d3, d4⟩ := h.dis
  have hs := h.src
  refine ⟨hs.below (B := b + 1) (by refine (Below.refl _ _).setCell (p := ⟨F, j, none⟩) (show b + 1 ≤ F by omega) x) (by omega), gb_setF h.gb d3 j x, ?_, (heap_setCell_other W ⟨F, j, none⟩ R _ (fun e => d1 e.symm)).trans h.res, gf_own _ _ h.own h.ne.1, h.ne, h.dis⟩
  rw [heap_setCell_same W F j _ _ _ h.fr, ← hx]
  simp
theorem step_app2 {ci : Int} {ops : Array Oper} {o : Oper} {a : Act} {K : Act → World → Prop} {Q : Exit → Act → World → Prop} {E : Prop} (wr W : World) (hW : W = wr.alloc (.cells #[.int .u8 ci] 5)) (hgd : o.guard = none) (s x : Operand)
    (ho : o.op = .call { callee := .builtin .append, args := #[s, x], argTypes := #[22, 22] })
    (B : Nat) (v : Value) (l : List Nat) (c : Nat) (hci : ci = (c : Int)) (hs : a.eval s = v) (hown : ownsB wr B v l)
    (hx : a.eval x = .slice (some ⟨wr.heap.size, 0, none⟩) 1 1) (hlen : l.length ≤ 100000000) (hB : B ≤ wr.heap.size)
    (h : ∀ ao cap' w', ownsB w' B (.slice ao (l.length + 1) cap') (l ++ [c]) → (wr.alloc (.cells #[.int .u8 (c : Int)] 5)).grownBy w' v.ownBlock → (∀ g, g < wr.heap.size → v.ownBlock ≠ some g → (Value.slice ao (l.length + 1) cap').ownBlock ≠ some g) → K (a.put o.dst (.slice ao (l.length + 1) cap')) w') :
    if Region.wanted o (yielded ops a.tmps) = true then Oper.wp Tryz.prog o a W K Q else E := by
  subst hci hW
  obtain ⟨i0, hi, hz0, hz1, hz2⟩ := info_parts Tryz.info5
  refine step_append_lies _ hgd s x 22 ho B 5 i0 (.int .u8 0) 1 1 Tryz.underlying22 hi hz0 hz1 hz2 rfl (by decide) v l.length (bv l) hs (World.ownsRow.alloc hown _) ⟨wr.heap.size, 0, none⟩ 1 1 [.int .u8 (c : Int)] hx rfl ?_ ?_ (by decide) ?_ ?_ ?_ (wr.heap.size + 1) (by simp) ?_
  · intro j u hj
    match j, hj with
    | 0, hj => simp at hj; subst hj; simp [Addr.add]
  · intro u hu; simp at hu; subst hu; rfl
  · unfold maxLen; omega
  · omega
  · simp; omega
  · intro gg cap w' ho' hg hat hlt
    have e1 : bv (l ++ [c]) = bv l ++ [.int .u8 (c : Int)] := by simp [bv]
    refine h (some ⟨gg, 0, none⟩) cap w' ?_ hg (fun g hgl hne => ?_)
    · unfold ownsB
      rw [e1, List.length_append]
      exact ho'
    · intro e
      simp [Value.ownBlock] at e
      rcases hat with hat | hat
      · exact hne (e ▸ hat)
      · omega
theorem gfI.app {w0 wS : World} {b : Nat} {a : Option Addr} {n cap : Nat} {l : List Nat} {i F R : Nat} {e : Bool} {id : Nat} {r : Bool} {d : Int} {v v' : Value} {dl dl' : List Nat} {W W' : World} {o : Obj} (h : gfI w0 wS b a n cap l i F R e id r d v dl W)
    (ho : ownsB W' wS.heap.size v' dl') (hg : (W.alloc o).grownBy W' v.ownBlock) (hk : ∀ g, g < W.heap.size → v.ownBlock ≠ some g → v'.ownBlock ≠ some g) :
    gfI w0 wS b a n cap l i F R e id r d v' dl' (W'.setCell ⟨F, 4, none⟩ v') := by
  obtain ⟨d1, d2, d3, d4⟩ := h.dis
  have hz : W.heap.size ≤ W'.heap.size := Nat.le_trans (by simp) hg.size
  have kb : ∀ g, g < W.heap.size → v.ownBlock ≠ some g → W'.heap[g]? = W.heap[g]? := fun g h1 h2 => (hg.block g (by simp; omega) (fun e => h2 e.symm)).trans (Below.heap_alloc W _ g h1)
  have hvb : ∀ g, g < wS.heap.size → v.ownBlock ≠ some g := fun g h1 e => by have := (World.ownsRow.lt h.own g e).1; omega
  have hbW : b < W.heap.size := Nat.lt_of_lt_of_le d2 h.gb.size
  obtain ⟨s, hs⟩ := h.src.at_
  have hs' : srcAt W' b a n cap i s := (kb b hbW (hvb b d2)).trans hs
  have hgb : wS.grownBy W' (some b) := ⟨hg.os.trans h.gb.os, hg.tape.trans h.gb.tape, hg.output.trans h.gb.output, Nat.le_trans h.gb.size hz, fun k h1 h2 => (kb k (Nat.lt_of_lt_of_le h1 h.gb.size) (hvb k h1)).trans (h.gb.block k h1 h2)⟩
  have hw0 : w0.heap.size ≤ b := h.src.hb
  have hb0 : Below w0.heap.size w0 W' := by
    have e1 : Below w0.heap.size w0 (W.alloc o) := h.src.bel.alloc h.src.bel.size _
    exact e1.grown hg (by have := h.src.bel.size; simp; omega) (fun k e => by have := (World.ownsRow.lt h.own k e).1; omega)
  have hs2 : srcI w0 b a n cap l i W' := ⟨⟨s, hs'⟩, hb0, h.src.by_, hw0⟩
  have kF := kb F (lt_of_block h.fr) h.ne.1
  have kR := kb R (lt_of_block h.res) h.ne.2
  refine ⟨hs2.below (B := b + 1) ((Below.refl _ _).setCell (p := ⟨F, 4, none⟩) (show b + 1 ≤ F by omega) v') (by omega), gb_setF hgb d3 4 v', ?_, (heap_setCell_other W' ⟨F, 4, none⟩ R _ (fun e => d1 e.symm)).trans (kR.trans h.res), gf_own _ _ ho (hk F (lt_of_block h.fr) h.ne.1), ⟨hk F (lt_of_block h.fr) h.ne.1, hk R (lt_of_block h.res) h.ne.2⟩, h.dis⟩
  rw [heap_setCell_same W' F 4 _ _ _ (kF.trans h.fr)]; simp
theorem gf_keep {w0 wS : World} {b : Nat} {a : Option Addr} {n cap : Nat} {l : List Nat} {i F R : Nat} {e : Bool} {id : Nat} {r : Bool} {d : Int} {v : Value} {dl : List Nat} {W W' : World} {o : Obj} (h : gfI w0 wS b a n cap l i F R e id r d v dl W)
    (hg : (W.alloc o).grownBy W' v.ownBlock) : W'.cell? ⟨F, 4, none⟩ = some v ∧ W'.frozen? ⟨F, 4, none⟩ = false := by
  have h1 := ((hg.block F (by simp; exact Nat.lt_succ_of_lt (lt_of_block h.fr)) (fun e => h.ne.1 e.symm)).trans (Below.heap_alloc W _ F (lt_of_block h.fr))).trans h.fr
  constructor <;> simp [World.cell?, World.frozen?, h1]
theorem gf_cellA {w0 wS : World} {b : Nat} {a : Option Addr} {n cap : Nat} {l : List Nat} {i F R : Nat} {e : Bool} {id : Nat} {r : Bool} {d : Int} {v : Value} {dl : List Nat} {W : World} (h : gfI w0 wS b a n cap l i F R e id r d v dl W) (o : Obj) : (W.alloc o).cell? ⟨F, 4, none⟩ = some v := by
  have h1 := (Below.heap_alloc W o F (lt_of_block h.fr)).trans h.fr
  simp [World.cell?, h1]
theorem small_snoc {dl : List Nat} {x : Nat} (h : ∀ y ∈ dl, y < 256) (hx : x < 256) : ∀ y ∈ dl ++ [x], y < 256 := by
  intro y hy
  rw [List.mem_append, List.mem_singleton] at hy
  rcases hy with hy | rfl
  · exact h y hy
  · exact hx
structure grI (w0 wS : World) (b : Nat) (a : Option Addr) (n cap : Nat) (l : List Nat) (i R : Nat) (W : World) : Prop where
  src : srcI w0 b a n cap l i W
  gb : wS.grownBy W (some b)
  res : W.heap[R]? = some (.cells #[.bool false, .int .u32 0, .bool false, .int .i64 0, .slice none 0 0] 25 (0, 0))
  dis : b < wS.heap.size ∧ wS.heap.size ≤ R
theorem grI.step {w0 wS : World} {b : Nat} {a : Option Addr} {n cap : Nat} {l : List Nat} {i i' R : Nat} {W W' : World} (h : grI w0 wS b a n cap l i R W) (hs : srcI w0 b a n cap l i' W') (hg : W.grownBy W' (some b)) : grI w0 wS b a n cap l i' R W' := by
  obtain ⟨d2, d4⟩ := h.dis
  exact ⟨hs, gb_trans h.gb hg, (hg.block R (lt_of_block h.res) (by simp; omega)).trans h.res, h.dis⟩
theorem grI.start {w0 w : World} {b : Nat} {a : Option Addr} {n cap : Nat} {l : List Nat} {i : Nat} (h : srcI w0 b a n cap l i w) :
    grI w0 w b a n cap l i w.heap.size (w.alloc (.cells #[.bool false, .int .u32 0, .bool false, .int .i64 0, .slice none 0 0] 25)) :=
  ⟨h.below ((Below.refl w.heap.size w).alloc (Nat.le_refl _) _) h.lt, gb_below ⟨rfl, rfl, rfl, Nat.le_refl _, fun _ _ _ => rfl⟩ ((Below.refl w.heap.size w).alloc (Nat.le_refl _) _), heap_alloc_new w _, h.lt, Nat.le_refl _⟩
theorem gfI.start {w0 wS : World} {b : Nat} {a : Option Addr} {n cap : Nat} {l : List Nat} {i R : Nat} {W : World} (h : grI w0 wS b a n cap l i R W) (e r : Bool) (d : Int) :
    gfI w0 wS b a n cap l i (W.heap.size + 1) R e 0 r d (.slice (some ⟨W.heap.size, 0, none⟩) 0 0) [] ((W.alloc (.cells #[] 5)).alloc (.cells #[.bool e, .int .u32 0, .bool r, .int .i64 d, .slice (some ⟨W.heap.size, 0, none⟩) 0 0] 25)) := by
  obtain ⟨d2, d4⟩ := h.dis
  have hz := h.gb.size
  have hR := lt_of_block h.res
  have hB : Below W.heap.size W ((W.alloc (.cells #[] 5)).alloc (.cells #[.bool e, .int .u32 0, .bool r, .int .i64 d, .slice (some ⟨W.heap.size, 0, none⟩) 0 0] 25)) := ((Below.refl _ _).alloc (Nat.le_refl _) _).alloc (by simp) _
  have e1 : (W.alloc (.cells #[] 5)).heap.size = W.heap.size + 1 := by simp
  refine ⟨h.src.below hB h.src.lt, gb_below h.gb (hB.mono hz), ?_, (hB.block _ hR).trans h.res, World.ownsRow.alloc (own_nil W wS.heap.size hz) _, ⟨?_, ?_⟩, by omega, by omega, by omega, by omega⟩
  · have := heap_alloc_new (W.alloc (.cells #[] 5)) (.cells #[.bool e, .int .u32 0, .bool r, .int .i64 d, .slice (some ⟨W.heap.size, 0, none⟩) 0 0] 25)
    rw [e1] at this
    exact this
  · simp [Value.ownBlock]
  · simp [Value.ownBlock]; omega
theorem dl_range (r : Bool) (d : Nat) : ∃ m : Nat, dl r (d : Int) = (m : Int) ∧ m ≤ 8 := by
  unfold dl
  cases r
  · by_cases h : 8 < (d : Int)
    · exact ⟨8, by simp [h], by omega⟩
    · exact ⟨d, by simp [h], by omega⟩
  · exact ⟨0, by simp, by omega⟩
theorem gfI.alloc {w0 wS : World} {b : Nat} {a : Option Addr} {n cap : Nat} {l : List Nat} {i F R : Nat} {e : Bool} {id : Nat} {r : Bool} {d : Int} {v : Value} {dl : List Nat} {W : World} (h : gfI w0 wS b a n cap l i F R e id r d v dl W) (o : Obj) : gfI w0 wS b a n cap l i F R e id r d v dl (W.alloc o) := by
  have hB : Below W.heap.size W (W.alloc o) := (Below.refl _ _).alloc (Nat.le_refl _) _
  exact ⟨h.src.below hB h.src.lt, gb_below h.gb (hB.mono h.gb.size), (hB.block _ (lt_of_block h.fr)).trans h.fr, (hB.block _ (lt_of_block h.res)).trans h.res, World.ownsRow.alloc h.own _, h.ne, h.dis⟩
theorem gfI.drew {w0 wS : World} {b : Nat} {a : Option Addr} {n cap : Nat} {l : List Nat} {i F R : Nat} {e : Bool} {id : Nat} {r : Bool} {d : Int} {v : Value} {dl : List Nat} {W : World} (h : gfI w0 wS b a n cap l i F R e id r d v dl W) : gfI w0 wS b a n cap l i F R e id r d v dl W.drew := by
  have hB : Below W.heap.size W W.drew := (Below.refl _ _).drew
  exact ⟨h.src.below hB h.src.lt, gb_below h.gb (hB.mono h.gb.size), h.fr, h.res, World.ownsRow.drew h.own, h.ne, h.dis⟩
theorem gf_end {w0 wS : World} {b : Nat} {a : Option Addr} {n cap : Nat} {l : List Nat} {i F R : Nat} {e : Bool} {id : Nat} {r : Bool} {d : Int} {v : Value} {dl : List Nat} {W : World} (h : gfI w0 wS b a n cap l i F R e id r d v dl W) (x0 x1 x2 x3 x4 : Value) :
    srcI w0 b a n cap l i (((((W.setCell ⟨R, 0, none⟩ x0).setCell ⟨R, 1, none⟩ x1).setCell ⟨R, 2, none⟩ x2).setCell ⟨R, 3, none⟩ x3).setCell ⟨R, 4, none⟩ x4) ∧ ownsB (((((W.setCell ⟨R, 0, none⟩ x0).setCell ⟨R, 1, none⟩ x1).setCell ⟨R, 2, none⟩ x2).setCell ⟨R, 3, none⟩ x3).setCell ⟨R, 4, none⟩ x4) wS.heap.size v dl ∧ wS.grownBy (((((W.setCell ⟨R, 0, none⟩ x0).setCell ⟨R, 1, none⟩ x1).setCell ⟨R, 2, none⟩ x2).setCell ⟨R, 3, none⟩ x3).setCell ⟨R, 4, none⟩ x4) (some b) := by
  obtain ⟨q1, q2, q3, q4⟩ := h.dis
  have nn := h.ne.2
  have hB : Below (b + 1) W (((((W.setCell ⟨R, 0, none⟩ x0).setCell ⟨R, 1, none⟩ x1).setCell ⟨R, 2, none⟩ x2).setCell ⟨R, 3, none⟩ x3).setCell ⟨R, 4, none⟩ x4) := (((((Below.refl _ _).setCell (p := ⟨R, 0, none⟩) (show b + 1 ≤ R by omega) _).setCell (p := ⟨R, 1, none⟩) (show b + 1 ≤ R by omega) _).setCell (p := ⟨R, 2, none⟩) (show b + 1 ≤ R by omega) _).setCell (p := ⟨R, 3, none⟩) (show b + 1 ≤ R by omega) _).setCell (p := ⟨R, 4, none⟩) (show b + 1 ≤ R by omega) _
  exact ⟨h.src.below hB (by omega), gf_own _ _ (gf_own _ _ (gf_own _ _ (gf_own _ _ (gf_own _ _ h.own nn) nn) nn) nn) nn, gb_setF (gb_setF (gb_setF (gb_setF (gb_setF h.gb q4 _ _) q4 _ _) q4 _ _) q4 _ _) q4 _ _⟩
def gfOut (w0 w : World) (b : Nat) (a : Option Addr) (n cap : Nat) (l : List Nat) (i T S : Nat) (D0 D1 : Int) (o : Ending) (w' : World) : Prop :=
  ∃ (e : Bool) (id : Nat) (r : Bool) (d : Int) (ao : Option Addr) (cap' i' : Nat) (dl : List Nat), o = .returned (frV e id r d ao dl.length cap') ∧ id < 4294967296 ∧ (D0 ≤ d ∧ d ≤ D1) ∧ dl.length ≤ S ∧ (∀ x ∈ dl, x < 256) ∧ i' ≤ i + T ∧ srcI w0 b a n cap l i' w' ∧ ownsB w' w.heap.size (.slice ao dl.length cap') dl ∧ w.grownBy w' (some b)
theorem gfOut.mk {w0 w : World} {b : Nat} {a : Option Addr} {n cap : Nat} {l : List Nat} {i T S : Nat} {D0 D1 : Int} {w' : World} (e : Bool) (id : Nat) (r : Bool) (d : Int) (ao : Option Addr) (cap' i' : Nat) (dl : List Nat) (h1 : id < 4294967296) (h2 : D0 ≤ d ∧ d ≤ D1) (h3 : dl.length ≤ S) (h4 : ∀ x ∈ dl, x < 256) (h5 : i' ≤ i + T) (h6 : srcI w0 b a n cap l i' w') (h7 : ownsB w' w.heap.size (.slice ao dl.length cap') dl) (h8 : w.grownBy w' (some b)) : gfOut w0 w b a n cap l i T S D0 D1 (.returned (frV e id r d ao dl.length cap')) w' :=
  ⟨e, id, r, d, ao, cap', i', dl, rfl, h1, h2, h3, h4, h5, h6, h7, h8⟩
set_option maxHeartbeats 4000000 in
set_option maxRecDepth 20000 in
theorem genFrame_any (w0 w : World) (b : Nat) (a : Option Addr) (n cap i : Nat) (l : List Nat) (h : srcI w0 b a n cap l i w) (hi : i ≤ 1000000000) :
    Calls Tryz.prog 157 #[.pointer (some ⟨b, 0, none⟩)] w fun o w' => gfOut w0 w b a n cap l i 100 8 0 15 o w' := by
  have st := grI.start h
  have HI : Hid (i ≤ 1000000000) := hi
  clear h hi
  go_enter Tryz.func157, Tryz.ntmps157
  go_wp2_with fail
  refine (n_int w0 _ b a n cap i l 2 2 rfl st.src (by have := HI.out; omega) (by decide) (by decide)).mono ?_
  rintro o w1 ⟨r1, rfl, h1, hs1, hg1⟩
  have st1 := st.step hs1 hg1
  clear st hs1 hg1
  generalize w.heap.size = R at *
  have ST : Hid (grI w0 w b a n cap l (i + 1) R w1) := st1
  clear st1
  go_wp2_with fail
  refine (n_int w0 _ b a n cap (i + 1) l 4 4 rfl ST.out.src (by have := HI.out; omega) (by decide) (by decide)).mono ?_
  rintro o w2 ⟨r2, rfl, h2, hs1, hg1⟩
  have st1 := ST.out.step hs1 hg1
  clear ST hs1 hg1
  have ST : Hid (grI w0 w b a n cap l (i + 2) R w2) := st1
  clear st1
  go_wp2_with fail
  refine (n_int w0 _ b a n cap (i + 2) l 9 9 rfl ST.out.src (by have := HI.out; omega) (by decide) (by decide)).mono ?_
  rintro o w3 ⟨r3, rfl, h3, hs1, hg1⟩
  have st1 := ST.out.step hs1 hg1
  clear ST hs1 hg1
  generalize ((r1 : Int) == 1) = fe at *
  generalize ((r2 : Int) == 0) = fr at *
  have st := gfI.start st1 fe fr (r3 : Int)
  clear st1 h1 h2
  go_wp2_with fail
  refine (n_int w0 _ b a n cap (i + 3) l 6 6 rfl st.src (by have := HI.out; omega) (by decide) (by decide)).mono ?_
  rintro o w4 ⟨r4, rfl, h4, hs1, hg1⟩
  have st1 := st.step hs1 hg1
  clear st hs1 hg1
  generalize w3.heap.size + 1 = F at *
  generalize w3.heap.size = g0 at *
  by_cases hr4 : r4 = 0
  · have hr4' : ((r4 : Int) == 0) = true := by simp; omega
    clear hr4
    have ST : Hid (gfI w0 w b a n cap l (i + 3 + 1) F R fe 0 fr (r3 : Int) (.slice (some ⟨g0, 0, none⟩) 0 0) [] w4) := st1
    clear st1
    go_wp2_with fail
    refine (n_int w0 _ b a n cap (i + 4) l 16 16 rfl ST.out.src (by have := HI.out; omega) (by decide) (by decide)).mono ?_
    rintro o w5 ⟨r5, rfl, h5, hs1, hg1⟩
    have st := ST.out.step hs1 hg1
    clear ST hs1 hg1 hr4'
    obtain ⟨d0, d1, d2, d3, d4, z0, z1, z2, z3, z4⟩ := st.cells
    have st1 := st.setAny 3 (.int .i64 (r5 : Int)) fe 0 fr (r5 : Int) rfl
    obtain ⟨d0', d1', d2', d3', d4', z0', z1', z2', z3', z4'⟩ := st1.cells
    have ST : Hid (gfI w0 w b a n cap l (i + 4 + 1) F R fe 0 fr (r5 : Int) (.slice (some ⟨g0, 0, none⟩) 0 0) [] (w5.setCell ⟨F, 3, none⟩ (.int .i64 (r5 : Int)))) := st1
    clear st st1
    go_wp2_with fail
    refine (genId_any w0 _ b a n cap (i + 4 + 1) l fe ST.out.src (by have := HI.out; omega)).mono ?_
    rintro o w6 ⟨x, i6, rfl, hx, hi6, hs1, hg1⟩
    have st := ST.out.step hs1 hg1
    clear ST hs1 hg1
    have HX : Hid (x < 4294967296 ∧ i6 ≤ i + 10 ∧ r5 ≤ 15) := ⟨hx, by omega, by omega⟩
    clear hx hi6 h5
    clear d0 d1 d2 d3 d4 z0 z1 z2 z3 z4 d0' d1' d2' d3' d4' z0' z1' z2' z3' z4'
    obtain ⟨d0, d1, d2, d3, d4, z0, z1, z2, z3, z4⟩ := st.cells
    have st1 := st.setAny 1 (.int .u32 (x : Int)) fe x fr (r5 : Int) rfl
    obtain ⟨d0', d1', d2', d3', d4', z0', z1', z2', z3', z4'⟩ := st1.cells
    have ST : Hid (gfI w0 w b a n cap l i6 F R fe x fr (r5 : Int) (.slice (some ⟨g0, 0, none⟩) 0 0) [] (w6.setCell ⟨F, 1, none⟩ (.int .u32 (x : Int)))) := st1
    clear st st1
    go_wp2_with fail
    refine (specDataLen_any _ fe x fr (r5 : Int) (some ⟨g0, 0, none⟩) 0 0).mono ?_
    rintro o w7 ⟨rfl, rfl⟩
    obtain ⟨m, hm, hm8⟩ := dl_range fr r5
    rw [hm]
    have st := ST.out.alloc (frC fe x fr (r5 : Int) (some ⟨g0, 0, none⟩) 0 0 25)
    clear ST hm
    clear d0 d1 d2 d3 d4 z0 z1 z2 z3 z4 d0' d1' d2' d3' d4' z0' z1' z2' z3' z4'
    generalize (w6.setCell ⟨F, 1, none⟩ (.int .u32 (x : Int))).alloc (frC fe x fr (r5 : Int) (some ⟨g0, 0, none⟩) 0 0 25) = W7 at *
    go_wp2_with fail
    go_loopw [5] (fun ii wr => ∃ (j i' cp : Nat) (ao : Option Addr) (dl : List Nat), j ≤ m ∧ ii = .int .i64 (j : Int) ∧ dl.length = j ∧ (∀ x ∈ dl, x < 256) ∧ i' ≤ i + 10 + 2 * j ∧ gfI w0 w b a n cap l i' F R fe x fr (r5 : Int) (.slice ao dl.length cp) dl wr) (fun ii _ => m - (intOf ii).toNat)
    case atStart => exact ⟨0, i6, 0, _, [], Nat.zero_le _, rfl, rfl, by simp, by have := HX.out; omega, st⟩
    case round =>
      clear st
      obtain ⟨j, i', cp, ao, dl, hj, rfl, hdl, hdb, hi', st⟩ := hrel
      by_cases hlt : j < m
      · have hlt' : (j : Int) < (m : Int) := by omega
        have STd : Hid (gfI w0 w b a n cap l i' F R fe x fr (r5 : Int) (.slice ao dl.length cp) dl wr.drew) := st.drew
        have HJ : Hid (j < m ∧ dl.length = j ∧ (∀ x ∈ dl, x < 256) ∧ i' ≤ i + 10 + 2 * j ∧ dl.length ≤ 100000000) := ⟨hlt, hdl, hdb, hi', by omega⟩
        have HI2 : Hid (i' ≤ 100000000000) := by have := HI.out; unfold Hid; omega
        obtain ⟨d0, d1, d2, d3, d4, z0, z1, z2, z3, z4⟩ := st.cells
        clear st hlt hj hdl hdb hi'
        go_wp2_with fail
        go_region_law (first | (go_simp; go_at_call 181; refine (genByte_any w0 _ b a n cap i' l STd.out.src HI2.out).mono ?_; rintro o w8 ⟨x8, i8, rfl, hx8, hi8, hs8, hg8⟩; have st8 := STd.out.step hs8 hg8; obtain ⟨y0, y1, y2, y3, y4, f0, f1, f2, f3, f4⟩ := st8.cells; have y4a := gf_cellA st8 (.cells #[.int .u8 (x8 : Int)] 5)) | (refine step_app2 w8 _ rfl (by rfl) _ _ (by rfl) w.heap.size _ dl x8 rfl (by rfl) st8.own (by rfl) HJ.out.2.2.2.2 st8.gb.size ?_; intro ao9 cp9 w9 ho9 hg9 hk9; obtain ⟨k4, k5⟩ := gf_keep st8 hg9))
        all_goals
          have st9 := st8.app ho9 hg9 hk9
          go_wp2
          go_roundw
          case rel => exact ⟨j + 1, i8, cp9, ao9, dl ++ [x8], HJ.out.1, by go_num, by rw [List.length_append, HJ.out.2.1]; rfl, small_snoc HJ.out.2.2.1 hx8, by have := HJ.out.2.2.2.1; omega, by rw [List.length_append]; exact st9⟩
          case measure => have := HJ.out.1; simp [intOf]; omega
      · have hlt' : ¬ (j : Int) < (m : Int) := by omega
        have hjm : j ≤ 8 := by omega
        have HJ : Hid (dl.length = j ∧ (∀ x ∈ dl, x < 256) ∧ i' ≤ i + 10 + 2 * j) := ⟨hdl, hdb, hi'⟩
        obtain ⟨d0, d1, d2, d3, d4, z0, z1, z2, z3, z4⟩ := st.cells
        obtain ⟨e0, e1, e2, e3, e4, y0, y1, y2, y3, y4⟩ := st.cellsR
        have ST : Hid (gfI w0 w b a n cap l i' F R fe x fr (r5 : Int) (.slice ao dl.length cp) dl wr) := st
        clear st hlt hj hdl hdb hi'
        go_wp2
        have he := gf_end ST.out (.bool fe) (.int .u32 (x : Int)) (.bool fr) (.int .i64 (r5 : Int)) (.slice ao dl.length cp)
        refine bodyPost_ret (v := frV fe x fr (r5 : Int) ao dl.length cp) (by simp [results, Tryz.results157, go_sem, e0, e1, e2, e3, e4]) rfl (gfOut.mk fe x fr (r5 : Int) ao cp i' dl HX.out.1 ⟨by omega, by have := HX.out.2.2; omega⟩ (by rw [HJ.out.1]; exact hjm) HJ.out.2.1 (by have := HJ.out.2.2; omega) he.1 he.2.1 he.2.2)
  · have hr4' : ((r4 : Int) == 0) = false := by simp; omega
    clear hr4
    have ST : Hid (gfI w0 w b a n cap l (i + 3 + 1) F R fe 0 fr (r3 : Int) (.slice (some ⟨g0, 0, none⟩) 0 0) [] w4) := st1
    obtain ⟨d0, d1, d2, d3, d4, z0, z1, z2, z3, z4⟩ := st1.cells
    clear st1
    go_wp2_with fail
    clear hr4'
    refine (genId_any w0 _ b a n cap (i + 3 + 1) l fe ST.out.src (by have := HI.out; omega)).mono ?_
    rintro o w6 ⟨x, i6, rfl, hx, hi6, hs1, hg1⟩
    have st := ST.out.step hs1 hg1
    clear ST hs1 hg1
    have HX : Hid (x < 4294967296 ∧ i6 ≤ i + 10 ∧ r3 ≤ 15) := ⟨hx, by omega, by omega⟩
    clear hx hi6 h3
    clear d0 d1 d2 d3 d4 z0 z1 z2 z3 z4
    obtain ⟨d0, d1, d2, d3, d4, z0, z1, z2, z3, z4⟩ := st.cells
    have st1 := st.setAny 1 (.int .u32 (x : Int)) fe x fr (r3 : Int) rfl
    obtain ⟨d0', d1', d2', d3', d4', z0', z1', z2', z3', z4'⟩ := st1.cells
    have ST : Hid (gfI w0 w b a n cap l i6 F R fe x fr (r3 : Int) (.slice (some ⟨g0, 0, none⟩) 0 0) [] (w6.setCell ⟨F, 1, none⟩ (.int .u32 (x : Int)))) := st1
    clear st st1
    go_wp2_with fail
    refine (specDataLen_any _ fe x fr (r3 : Int) (some ⟨g0, 0, none⟩) 0 0).mono ?_
    rintro o w7 ⟨rfl, rfl⟩
    obtain ⟨m, hm, hm8⟩ := dl_range fr r3
    rw [hm]
    have st := ST.out.alloc (frC fe x fr (r3 : Int) (some ⟨g0, 0, none⟩) 0 0 25)
    clear ST hm
    clear d0 d1 d2 d3 d4 z0 z1 z2 z3 z4 d0' d1' d2' d3' d4' z0' z1' z2' z3' z4'
    generalize (w6.setCell ⟨F, 1, none⟩ (.int .u32 (x : Int))).alloc (frC fe x fr (r3 : Int) (some ⟨g0, 0, none⟩) 0 0 25) = W7 at *
    go_wp2_with fail
    go_loopw [5] (fun ii wr => ∃ (j i' cp : Nat) (ao : Option Addr) (dl : List Nat), j ≤ m ∧ ii = .int .i64 (j : Int) ∧ dl.length = j ∧ (∀ x ∈ dl, x < 256) ∧ i' ≤ i + 10 + 2 * j ∧ gfI w0 w b a n cap l i' F R fe x fr (r3 : Int) (.slice ao dl.length cp) dl wr) (fun ii _ => m - (intOf ii).toNat)
    case atStart => exact ⟨0, i6, 0, _, [], Nat.zero_le _, rfl, rfl, by simp, by have := HX.out; omega, st⟩
    case round =>
      clear st
      obtain ⟨j, i', cp, ao, dl, hj, rfl, hdl, hdb, hi', st⟩ := hrel
      by_cases hlt : j < m
      · have hlt' : (j : Int) < (m : Int) := by omega
        have STd : Hid (gfI w0 w b a n cap l i' F R fe x fr (r3 : Int) (.slice ao dl.length cp) dl wr.drew) := st.drew
        have HJ : Hid (j < m ∧ dl.length = j ∧ (∀ x ∈ dl, x < 256) ∧ i' ≤ i + 10 + 2 * j ∧ dl.length ≤ 100000000) := ⟨hlt, hdl, hdb, hi', by omega⟩
        have HI2 : Hid (i' ≤ 100000000000) := by have := HI.out; unfold Hid; omega
        obtain ⟨d0, d1, d2, d3, d4, z0, z1, z2, z3, z4⟩ := st.cells
        clear st hlt hj hdl hdb hi'
        go_wp2_with fail
        go_region_law (first | (go_simp; go_at_call 181; refine (genByte_any w0 _ b a n cap i' l STd.out.src HI2.out).mono ?_; rintro o w8 ⟨x8, i8, rfl, hx8, hi8, hs8, hg8⟩; have st8 := STd.out.step hs8 hg8; obtain ⟨y0, y1, y2, y3, y4, f0, f1, f2, f3, f4⟩ := st8.cells; have y4a := gf_cellA st8 (.cells #[.int .u8 (x8 : Int)] 5)) | (refine step_app2 w8 _ rfl (by rfl) _ _ (by rfl) w.heap.size _ dl x8 rfl (by rfl) st8.own (by rfl) HJ.out.2.2.2.2 st8.gb.size ?_; intro ao9 cp9 w9 ho9 hg9 hk9; obtain ⟨k4, k5⟩ := gf_keep st8 hg9))
        all_goals
          have st9 := st8.app ho9 hg9 hk9
          go_wp2
          go_roundw
          case rel => exact ⟨j + 1, i8, cp9, ao9, dl ++ [x8], HJ.out.1, by go_num, by rw [List.length_append, HJ.out.2.1]; rfl, small_snoc HJ.out.2.2.1 hx8, by have := HJ.out.2.2.2.1; omega, by rw [List.length_append]; exact st9⟩
          case measure => have := HJ.out.1; simp [intOf]; omega
      · have hlt' : ¬ (j : Int) < (m : Int) := by omega
        have hjm : j ≤ 8 := by omega
        have HJ : Hid (dl.length = j ∧ (∀ x ∈ dl, x < 256) ∧ i' ≤ i + 10 + 2 * j) := ⟨hdl, hdb, hi'⟩
        obtain ⟨d0, d1, d2, d3, d4, z0, z1, z2, z3, z4⟩ := st.cells
        obtain ⟨e0, e1, e2, e3, e4, y0, y1, y2, y3, y4⟩ := st.cellsR
        have ST : Hid (gfI w0 w b a n cap l i' F R fe x fr (r3 : Int) (.slice ao dl.length cp) dl wr) := st
        clear st hlt hj hdl hdb hi'
        go_wp2
        have he := gf_end ST.out (.bool fe) (.int .u32 (x : Int)) (.bool fr) (.int .i64 (r3 : Int)) (.slice ao dl.length cp)
        refine bodyPost_ret (v := frV fe x fr (r3 : Int) ao dl.length cp) (by simp [results, Tryz.results157, go_sem, e0, e1, e2, e3, e4]) rfl (gfOut.mk fe x fr (r3 : Int) ao cp i' dl HX.out.1 ⟨by omega, by have := HX.out.2.2; omega⟩ (by rw [HJ.out.1]; exact hjm) HJ.out.2.1 (by have := HJ.out.2.2; omega) he.1 he.2.1 he.2.2)
theorem gfI.start2 {w0 wS : World} {b : Nat} {a : Option Addr} {n cap : Nat} {l : List Nat} {i R : Nat} {W : World} (h : grI w0 wS b a n cap l i R W) (e : Bool) (id : Nat) (r : Bool) (d : Int) (ao : Option Addr) (m cap' : Nat) (dl : List Nat) (ho : ownsB W wS.heap.size (.slice ao m cap') dl) (hne : (Value.slice ao m cap').ownBlock ≠ some R) :
    gfI w0 wS b a n cap l i W.heap.size R e id r d (.slice ao m cap') dl (W.alloc (.cells #[.bool e, .int .u32 (id : Int), .bool r, .int .i64 d, .slice ao m cap'] 25)) := by
  obtain ⟨d2, d4⟩ := h.dis
  have hz := h.gb.size
  have hR := lt_of_block h.res
  have hB : Below W.heap.size W (W.alloc (.cells #[.bool e, .int .u32 (id : Int), .bool r, .int .i64 d, .slice ao m cap'] 25)) := (Below.refl _ _).alloc (Nat.le_refl _) _
  refine ⟨h.src.below hB h.src.lt, gb_below h.gb (hB.mono hz), heap_alloc_new W _, (hB.block _ hR).trans h.res, World.ownsRow.alloc ho _, ⟨fun e => ?_, hne⟩, by omega, by omega, by omega, by omega⟩
  have := (World.ownsRow.lt ho _ e).2
  omega
theorem list_app2 {ci : Int} {ops : Array Oper} {rest : List Oper} {o : Oper} {a : Act} {Q : Exit → Act → World → Prop} (wr W : World) (hW : W = wr.alloc (.cells #[.int .u8 ci] 5)) (hgd : o.guard = none) (s x : Operand)
    (ho : o.op = .call { callee := .builtin .append, args := #[s, x], argTypes := #[22, 22] })
    (B : Nat) (v : Value) (l : List Nat) (c : Nat) (hci : ci = (c : Int)) (hs : a.eval s = v) (hown : ownsB wr B v l)
    (hx : a.eval x = .slice (some ⟨wr.heap.size, 0, none⟩) 1 1) (hlen : l.length ≤ 100000000) (hB : B ≤ wr.heap.size)
    (h : ∀ ao cap' w', ownsB w' B (.slice ao (l.length + 1) cap') (l ++ [c]) → (wr.alloc (.cells #[.int .u8 (c : Int)] 5)).grownBy w' v.ownBlock → (∀ g, g < wr.heap.size → v.ownBlock ≠ some g → (Value.slice ao (l.length + 1) cap').ownBlock ≠ some g) → wpList Tryz.prog ops Q rest (a.put o.dst (.slice ao (l.length + 1) cap')) w') :
    wpList Tryz.prog ops Q (o :: rest) a W := by
  subst hci hW
  obtain ⟨i0, hi, hz0, hz1, hz2⟩ := info_parts Tryz.info5
  refine wpList_append_lies _ hgd s x 22 ho B 5 i0 (.int .u8 0) 1 1 Tryz.underlying22 hi hz0 hz1 hz2 rfl (by decide) v l.length (bv l) hs (World.ownsRow.alloc hown _) ⟨wr.heap.size, 0, none⟩ 1 1 [.int .u8 (c : Int)] hx rfl ?_ ?_ (by decide) ?_ ?_ ?_ (wr.heap.size + 1) (by simp) ?_
  · intro j u hj
    match j, hj with
    | 0, hj => simp at hj; subst hj; simp [Addr.add]
  · intro u hu; simp at hu; subst hu; rfl
  · unfold maxLen; omega
  · omega
  · simp; omega
  · intro gg cap w' ho' hg hat hlt
    have e1 : bv (l ++ [c]) = bv l ++ [.int .u8 (c : Int)] := by simp [bv]
    refine h (some ⟨gg, 0, none⟩) cap w' ?_ hg (fun g hgl hne => ?_)
    · unfold ownsB
      rw [e1, List.length_append]
      exact ho'
    · intro e
      simp [Value.ownBlock] at e
      rcases hat with hat | hat
      · exact hne (e ▸ hat)
      · omega
set_option maxHeartbeats 4000000 in
set_option maxRecDepth 20000 in
theorem genAny_any (w0 w : World) (b : Nat) (a : Option Addr) (n cap i : Nat) (l : List Nat) (h : srcI w0 b a n cap l i w) (hi : i ≤ 100000000) :
    Calls Tryz.prog 112 #[.pointer (some ⟨b, 0, none⟩)] w fun o w' => gfOut w0 w b a n cap l i 102 9 (-1) 16 o w' := by
  have st := grI.start h
  have HI : Hid (i ≤ 100000000) := hi
  clear h hi
  go_enter Tryz.func112, Tryz.ntmps112
  go_wp2_with fail
  refine (genFrame_any w0 _ b a n cap i l st.src (by have := HI.out; omega)).mono ?_
  rintro o w1 ⟨fe, id, fr, d, ao, cp, i1, dl, rfl, hid, hd, hl8, hby, hi1, hs1, ho1, hg1⟩
  have st1 := st.step hs1 hg1
  have hz1 : (w.alloc (.cells #[.bool false, .int .u32 0, .bool false, .int .i64 0, .slice none 0 0] 25)).heap.size = w.heap.size + 1 := by simp
  have hne : (Value.slice ao dl.length cp).ownBlock ≠ some w.heap.size := fun e => by
    have := (World.ownsRow.lt ho1 _ e).1
    omega
  have hlow : ownsB w1 w.heap.size (.slice ao dl.length cp) dl := by
    obtain ⟨q1, q2 | ⟨g, c', cur, q3, q4, rest⟩⟩ := ho1
    · exact ⟨q1, .inl q2⟩
    · exact ⟨q1, .inr ⟨g, c', cur, q3, by omega, rest⟩⟩
  have st2 := gfI.start2 st1 fe id fr d ao dl.length cp dl hlow hne
  have HF : Hid (id < 4294967296 ∧ (0 ≤ d ∧ d ≤ 15) ∧ dl.length ≤ 8 ∧ (∀ x ∈ dl, x < 256) ∧ i1 ≤ i + 100) := ⟨hid, hd, hl8, hby, hi1⟩
  have HI1 : Hid (i1 ≤ 1000000000) := by have := HI.out; unfold Hid; omega
  clear st st1 hs1 ho1 hg1 hz1 hne hlow hid hd hl8 hby hi1
  go_wp2_with fail
  refine (n_int w0 _ b a n cap i1 l 5 5 rfl st2.src (by have := HI1.out; omega) (by decide) (by decide)).mono ?_
  rintro o w2 ⟨r1, rfl, h1, hs1, hg1⟩
  have st := st2.step hs1 hg1
  clear st2 hs1 hg1
  generalize w.heap.size = R at *
  generalize w1.heap.size = F at *
  by_cases hr : r1 = 0
  · have hr' : ((r1 : Int) == 0) = true := by simp; omega
    clear hr
    have ST : Hid (gfI w0 w b a n cap l (i1 + 1) F R fe id fr d (.slice ao dl.length cp) dl w2) := st
    clear st
    go_wp2_with fail
    refine (n_int w0 _ b a n cap (i1 + 1) l 6 6 rfl ST.out.src (by have := HI1.out; omega) (by decide) (by decide)).mono ?_
    rintro o w3 ⟨r2, rfl, h2, hs1, hg1⟩
    have st := ST.out.step hs1 hg1
    clear ST hs1 hg1
    obtain ⟨d0, d1, d2, d3, d4, z0, z1, z2, z3, z4⟩ := st.cells
    obtain ⟨e0, e1, e2, e3, e4, y0, y1, y2, y3, y4⟩ := st.cellsR
    rcases (show r2 = 0 ∨ r2 = 1 ∨ r2 = 2 ∨ r2 = 3 ∨ r2 = 4 ∨ r2 = 5 by omega) with rfl | rfl | rfl | rfl | rfl | rfl
    · have st1 := ((st).setAny 3 (.int .i64 16) fe id fr 16 rfl)
      have ST : Hid (gfI w0 w b a n cap l (i1 + 1 + 1) F R fe id fr 16 (.slice ao dl.length cp) dl (w3.setCell ⟨F, 3, none⟩ (.int .i64 16))) := st1
      obtain ⟨d0', d1', d2', d3', d4', z0', z1', z2', z3', z4'⟩ := st1.cells
      obtain ⟨e0', e1', e2', e3', e4', y0', y1', y2', y3', y4'⟩ := st1.cellsR
      clear st st1
      go_wp2
      have he := gf_end ST.out (.bool fe) (.int .u32 ((id : Nat) : Int)) (.bool fr) (.int .i64 16) (.slice ao dl.length cp)
      refine bodyPost_ret (v := frV fe id fr 16 ao dl.length cp) (by simp [results, Tryz.results112, go_sem, e0', e1', e2', e3', e4']) rfl (gfOut.mk fe id fr 16 ao cp (i1 + 1 + 1) dl HF.out.1 (by have := HF.out.2.1; omega) (by have := HF.out.2.2.1; omega) HF.out.2.2.2.1 (by have := HF.out.2.2.2.2; omega) he.1 he.2.1 he.2.2)
    · have st1 := ((st).setAny 3 (.int .i64 (-1)) fe id fr (-1) rfl)
      have ST : Hid (gfI w0 w b a n cap l (i1 + 1 + 1) F R fe id fr (-1) (.slice ao dl.length cp) dl (w3.setCell ⟨F, 3, none⟩ (.int .i64 (-1)))) := st1
      obtain ⟨d0', d1', d2', d3', d4', z0', z1', z2', z3', z4'⟩ := st1.cells
      obtain ⟨e0', e1', e2', e3', e4', y0', y1', y2', y3', y4'⟩ := st1.cellsR
      clear st st1
      go_wp2
      have he := gf_end ST.out (.bool fe) (.int .u32 ((id : Nat) : Int)) (.bool fr) (.int .i64 (-1)) (.slice ao dl.length cp)
      refine bodyPost_ret (v := frV fe id fr (-1) ao dl.length cp) (by simp [results, Tryz.results112, go_sem, e0', e1', e2', e3', e4']) rfl (gfOut.mk fe id fr (-1) ao cp (i1 + 1 + 1) dl HF.out.1 (by have := HF.out.2.1; omega) (by have := HF.out.2.2.1; omega) HF.out.2.2.2.1 (by have := HF.out.2.2.2.2; omega) he.1 he.2.1 he.2.2)
    · have ST : Hid (gfI w0 w b a n cap l (i1 + 1 + 1) F R fe id fr d (.slice ao dl.length cp) dl w3) := st
      have HL : Hid (dl.length ≤ 100000000) := by have := HF.out.2.2.1; unfold Hid; omega
      clear st
      go_wp2_with (at_builtin; refine list_app2 w3 _ rfl rfl (.tmp 20) (.tmp 21) rfl w.heap.size _ dl 1 rfl rfl ST.out.own rfl HL.out ST.out.gb.size ?_)
      intro ao9 cp9 w9 ho9 hg9 hk9
      have st1 := ST.out.app ho9 hg9 hk9
      obtain ⟨k4, k5⟩ := gf_keep ST.out hg9
      obtain ⟨d0', d1', d2', d3', d4', z0', z1', z2', z3', z4'⟩ := st1.cells
      obtain ⟨e0', e1', e2', e3', e4', y0', y1', y2', y3', y4'⟩ := st1.cellsR
      have ST9 : Hid (gfI w0 w b a n cap l (i1 + 1 + 1) F R fe id fr d (.slice ao9 (dl.length + 1) cp9) (dl ++ [1]) (w9.setCell ⟨F, 4, none⟩ (.slice ao9 (dl.length + 1) cp9))) := st1
      clear st1 ST ho9 hg9 hk9
      go_wp2
      have he := gf_end ST9.out (.bool fe) (.int .u32 (id : Int)) (.bool fr) (.int .i64 d) (.slice ao9 (dl.length + 1) cp9)
      have hln : (dl ++ [1]).length = dl.length + 1 := by simp
      rw [← hln] at he ⊢
      refine bodyPost_ret (v := frV fe id fr d ao9 (dl ++ [1]).length cp9) (by simp [results, Tryz.results112, go_sem, e0', e1', e2', e3', e4']) rfl (gfOut.mk fe id fr d ao9 cp9 (i1 + 1 + 1) (dl ++ [1]) HF.out.1 (by have := HF.out.2.1; omega) (by have := HF.out.2.2.1; omega) (small_snoc HF.out.2.2.2.1 (by decide)) (by have := HF.out.2.2.2.2; omega) he.1 he.2.1 he.2.2)
    · have st1 := ((st).setAny 1 (.int .u32 536870912) fe 536870912 fr d rfl)
      have ST : Hid (gfI w0 w b a n cap l (i1 + 1 + 1) F R fe 536870912 fr d (.slice ao dl.length cp) dl (w3.setCell ⟨F, 1, none⟩ (.int .u32 536870912))) := st1
      obtain ⟨d0', d1', d2', d3', d4', z0', z1', z2', z3', z4'⟩ := st1.cells
      obtain ⟨e0', e1', e2', e3', e4', y0', y1', y2', y3', y4'⟩ := st1.cellsR
      clear st st1
      go_wp2
      have he := gf_end ST.out (.bool fe) (.int .u32 ((536870912 : Nat) : Int)) (.bool fr) (.int .i64 d) (.slice ao dl.length cp)
      refine bodyPost_ret (v := frV fe 536870912 fr d ao dl.length cp) (by simp [results, Tryz.results112, go_sem, e0', e1', e2', e3', e4']) rfl (gfOut.mk fe 536870912 fr d ao cp (i1 + 1 + 1) dl (by decide) (by have := HF.out.2.1; omega) (by have := HF.out.2.2.1; omega) HF.out.2.2.2.1 (by have := HF.out.2.2.2.2; omega) he.1 he.2.1 he.2.2)
    · have st1 := ((((st).setAny 0 (.bool false) false id fr d rfl)).setAny 1 (.int .u32 2048) false 2048 fr d rfl)
      have ST : Hid (gfI w0 w b a n cap l (i1 + 1 + 1) F R false 2048 fr d (.slice ao dl.length cp) dl ((w3.setCell ⟨F, 0, none⟩ (.bool false)).setCell ⟨F, 1, none⟩ (.int .u32 2048))) := st1
      obtain ⟨d0', d1', d2', d3', d4', z0', z1', z2', z3', z4'⟩ := st1.cells
      obtain ⟨e0', e1', e2', e3', e4', y0', y1', y2', y3', y4'⟩ := st1.cellsR
      clear st st1
      go_wp2
      have he := gf_end ST.out (.bool false) (.int .u32 ((2048 : Nat) : Int)) (.bool fr) (.int .i64 d) (.slice ao dl.length cp)
      refine bodyPost_ret (v := frV false 2048 fr d ao dl.length cp) (by simp [results, Tryz.results112, go_sem, e0', e1', e2', e3', e4']) rfl (gfOut.mk false 2048 fr d ao cp (i1 + 1 + 1) dl (by decide) (by have := HF.out.2.1; omega) (by have := HF.out.2.2.1; omega) HF.out.2.2.2.1 (by have := HF.out.2.2.2.2; omega) he.1 he.2.1 he.2.2)
    · have st1 := ((st).setAny 2 (.bool (!fr)) fe id (!fr) d rfl)
      have ST : Hid (gfI w0 w b a n cap l (i1 + 1 + 1) F R fe id (!fr) d (.slice ao dl.length cp) dl (w3.setCell ⟨F, 2, none⟩ (.bool (!fr)))) := st1
      obtain ⟨d0', d1', d2', d3', d4', z0', z1', z2', z3', z4'⟩ := st1.cells
      obtain ⟨e0', e1', e2', e3', e4', y0', y1', y2', y3', y4'⟩ := st1.cellsR
      clear st st1
      go_wp2
      have he := gf_end ST.out (.bool fe) (.int .u32 ((id : Nat) : Int)) (.bool (!fr)) (.int .i64 d) (.slice ao dl.length cp)
      refine bodyPost_ret (v := frV fe id (!fr) d ao dl.length cp) (by simp [results, Tryz.results112, go_sem, e0', e1', e2', e3', e4']) rfl (gfOut.mk fe id (!fr) d ao cp (i1 + 1 + 1) dl HF.out.1 (by have := HF.out.2.1; omega) (by have := HF.out.2.2.1; omega) HF.out.2.2.2.1 (by have := HF.out.2.2.2.2; omega) he.1 he.2.1 he.2.2)
  · have hr' : ((r1 : Int) == 0) = false := by simp; omega
    clear hr
    obtain ⟨d0, d1, d2, d3, d4, z0, z1, z2, z3, z4⟩ := st.cells
    obtain ⟨e0, e1, e2, e3, e4, y0, y1, y2, y3, y4⟩ := st.cellsR
    have ST : Hid (gfI w0 w b a n cap l (i1 + 1) F R fe id fr d (.slice ao dl.length cp) dl w2) := st
    clear st
    go_wp2
    have he := gf_end ST.out (.bool fe) (.int .u32 (id : Int)) (.bool fr) (.int .i64 d) (.slice ao dl.length cp)
    refine bodyPost_ret (v := frV fe id fr d ao dl.length cp) (by simp [results, Tryz.results112, go_sem, e0, e1, e2, e3, e4]) rfl (gfOut.mk fe id fr d ao cp (i1 + 1) dl HF.out.1 (by have := HF.out.2.1; omega) (by have := HF.out.2.2.1; omega) HF.out.2.2.2.1 (by have := HF.out.2.2.2.2; omega) he.1 he.2.1 he.2.2)
def drOut (w : World) (o : Ending) (w' : World) : Prop :=
  ∃ (e : Bool) (id : Nat) (r : Bool) (d : Int) (ao : Option Addr) (cap' : Nat) (dl : List Nat), o = .returned (frV e id r d ao dl.length cap') ∧ id < 4294967296 ∧ (-1 ≤ d ∧ d ≤ 16) ∧ dl.length ≤ 9 ∧ isBytes w' ao dl.length cap' dl ∧ Below w.heap.size w w'
theorem drOut.mk {w w' : World} (e : Bool) (id : Nat) (r : Bool) (d : Int) (ao : Option Addr) (cap' : Nat) (dl : List Nat) (h1 : id < 4294967296) (h2 : -1 ≤ d ∧ d ≤ 16) (h3 : dl.length ≤ 9) (h4 : isBytes w' ao dl.length cap' dl) (h5 : Below w.heap.size w w') : drOut w (.returned (frV e id r d ao dl.length cap')) w' :=
  ⟨e, id, r, d, ao, cap', dl, rfl, h1, h2, h3, h4, h5⟩
theorem own_bytes {w : World} {B : Nat} {ao : Option Addr} {n cap : Nat} {l : List Nat} (h : ownsB w B (.slice ao n cap) l) (hl : ∀ x ∈ l, x < 256) (hn : n = l.length) : isBytes w ao n cap l := by
  by_cases he : l = []
  · subst he
    exact ⟨hn, by rw [hn]; exact Nat.zero_le _, hl, fun h => absurd rfl h⟩
  · obtain ⟨g, c', hv, h1, h2, h3, h4, h5⟩ := h.open he
    cases hv
    refine ⟨rfl, h3, hl, fun _ => ⟨g, 0, rfl, fun j hj => ?_⟩⟩
    have := h5.cell j hj
    rw [Nat.zero_add, this]
    simp [hj]
theorem dr_end {w W : World} {R : Nat} {v : Value} {l : List Nat} (hB : Below R w W) (ho : ownsB W (R + 1) v l) (x0 x1 x2 x3 x4 : Value) :
    ownsB (((((W.setCell ⟨R, 0, none⟩ x0).setCell ⟨R, 1, none⟩ x1).setCell ⟨R, 2, none⟩ x2).setCell ⟨R, 3, none⟩ x3).setCell ⟨R, 4, none⟩ x4) (R + 1) v l ∧ Below R w (((((W.setCell ⟨R, 0, none⟩ x0).setCell ⟨R, 1, none⟩ x1).setCell ⟨R, 2, none⟩ x2).setCell ⟨R, 3, none⟩ x3).setCell ⟨R, 4, none⟩ x4) := by
  have nn : v.ownBlock ≠ some R := fun e => by have := (World.ownsRow.lt ho R e).1; omega
  exact ⟨gf_own _ _ (gf_own _ _ (gf_own _ _ (gf_own _ _ (gf_own _ _ ho nn) nn) nn) nn) nn, ((((hB.setCell (p := ⟨R, 0, none⟩) (Nat.le_refl _) _).setCell (p := ⟨R, 1, none⟩) (Nat.le_refl _) _).setCell (p := ⟨R, 2, none⟩) (Nat.le_refl _) _).setCell (p := ⟨R, 3, none⟩) (Nat.le_refl _) _).setCell (p := ⟨R, 4, none⟩) (Nat.le_refl _) _⟩
set_option maxHeartbeats 2000000 in
set_option maxRecDepth 20000 in
theorem drawArb_any (w : World) (a : Option Addr) (n cap : Nat) (l : List Nat) (h : isBytes w a n cap l) (hn : n ≤ 1048576) :
    Calls Tryz.prog 51 #[.slice a n cap] w fun o w' => drOut w o w' := by
  have HB : Hid (isBytes (w.alloc (.cells #[.bool false, .int .u32 0, .bool false, .int .i64 0, .slice none 0 0] 25)) a n cap l) := h.below ((Below.refl _ _).alloc (Nat.le_refl _) _)
  have HN : Hid (n ≤ 1048576) := hn
  clear h hn
  go_enter Tryz.func51, Tryz.ntmps51
  go_wp2_with fail
  refine (new_any _ a n cap l HB.out HN.out).mono ?_
  rintro o w1 ⟨b, rfl, hs, hb, hB1⟩
  go_wp2_with fail
  refine (genAny_any _ w1 b a n cap 0 l hs (by decide)).mono ?_
  rintro o w2 ⟨fe, id, fr, d, ao, cp, i1, dl, rfl, hid, hd, hl9, hby, hi1, hs2, ho2, hg2⟩
  have e1 : (w.alloc (.cells #[.bool false, .int .u32 0, .bool false, .int .i64 0, .slice none 0 0] 25)).heap.size = w.heap.size + 1 := by simp
  have hbl := hs2.bel
  have hres : w2.heap[w.heap.size]? = some (.cells #[.bool false, .int .u32 0, .bool false, .int .i64 0, .slice none 0 0] 25 (0, 0)) := (hbl.block _ (by omega)).trans (heap_alloc_new w _)
  have hz := hB1.size
  have hB3 : Below w.heap.size w w2 := ((Below.refl w.heap.size w).alloc (Nat.le_refl _) _).trans (hbl.mono (by omega))
  have hlow : ownsB w2 (w.heap.size + 1) (.slice ao dl.length cp) dl := by
    obtain ⟨q1, q2 | ⟨g, c', cur, q3, q4, rest⟩⟩ := ho2
    · exact ⟨q1, .inl q2⟩
    · exact ⟨q1, .inr ⟨g, c', cur, q3, by omega, rest⟩⟩
  have HE : Hid (id < 4294967296 ∧ (-1 ≤ d ∧ d ≤ 16) ∧ dl.length ≤ 9 ∧ (∀ x ∈ dl, x < 256) ∧ Below w.heap.size w w2 ∧ ownsB w2 (w.heap.size + 1) (.slice ao dl.length cp) dl) := ⟨hid, hd, hl9, hby, hB3, hlow⟩
  clear hid hd hl9 hby hi1 hs2 ho2 hg2 hbl hz hB3 hlow hs hb hB1 e1
  have e0 : w2.cell? ⟨w.heap.size, 0, none⟩ = some (.bool false) := by simp [World.cell?, hres]
  have e1 : w2.cell? ⟨w.heap.size, 1, none⟩ = some (.int .u32 0) := by simp [World.cell?, hres]
  have e2 : w2.cell? ⟨w.heap.size, 2, none⟩ = some (.bool false) := by simp [World.cell?, hres]
  have e3 : w2.cell? ⟨w.heap.size, 3, none⟩ = some (.int .i64 0) := by simp [World.cell?, hres]
  have e4 : w2.cell? ⟨w.heap.size, 4, none⟩ = some (.slice none 0 0) := by simp [World.cell?, hres]
  have y0 : w2.frozen? ⟨w.heap.size, 0, none⟩ = false := by simp [World.frozen?, hres]
  have y1 : w2.frozen? ⟨w.heap.size, 1, none⟩ = false := by simp [World.frozen?, hres]
  have y2 : w2.frozen? ⟨w.heap.size, 2, none⟩ = false := by simp [World.frozen?, hres]
  have y3 : w2.frozen? ⟨w.heap.size, 3, none⟩ = false := by simp [World.frozen?, hres]
  have y4 : w2.frozen? ⟨w.heap.size, 4, none⟩ = false := by simp [World.frozen?, hres]
  clear hres
  go_wp2
  have he := dr_end HE.out.2.2.2.2.1 HE.out.2.2.2.2.2 (.bool fe) (.int .u32 (id : Int)) (.bool fr) (.int .i64 d) (.slice ao dl.length cp)
  refine bodyPost_ret (v := frV fe id fr d ao dl.length cp) (by simp [results, Tryz.results51, go_sem, e0, e1, e2, e3, e4]) rfl (drOut.mk fe id fr d ao cp dl HE.out.1 HE.out.2.1 HE.out.2.2.1 (own_bytes he.1 HE.out.2.2.2.1 rfl) he.2)
end Go.Proofs.YtaamahohdnbpiaaGreat
namespace Go.Proofs.YtaamahohdnbpiaaGreat
open Go.RowKit
set_option linter.unusedVariables false
set_option maxRecDepth 20000 in
theorem code_open {H : Type} {enc : TypeId × Value → H} {W : World} {r : Reach} {b0 : Nat} {v : Value} {d : DataW H} {p : List MemPlace}
    (hv : Value.okWide Tryz.prog W r b0 22 v) (h : DataW.Trod enc Tryz.prog W 0 (fun _ => true) true 22 v d p) :
    ∃ a n cap l, v = .slice a n cap ∧ isBytes W a n cap l ∧ n ≤ maxLen := by
  obtain ⟨a, n, cap, rfl⟩ := Go.WideShapes.okWide_slice Tryz.underlying22 hv
  obtain ⟨fuel, hf⟩ := h
  exact bytes_open (v := .slice a n cap) (by simpa [Value.cells] using hf)
set_option maxHeartbeats 4000000 in
set_option maxRecDepth 20000 in
theorem wFrame_same (w : World) (e : Bool) (i : Nat) (r : Bool) (d : Int) (a : Option Addr) (n cap : Nat) (l : List Nat) (h : isBytes w a n cap l) (a' : Option Addr) (cap' : Nat) (h' : isBytes w a' n cap' l) (hn : n ≤ 1048576) :
    Calls Tryz.prog 21 #[frV e i r d a n cap, frV e i r d a' n cap'] w fun o w' => o = .returned (.bool true) ∧ Below w.heap.size w w' := by
  have hE : (e != e) = false := by simp
  have hR : (r != r) = false := by simp
  have hD : (d != d) = false := by simp
  have hI : ((i : Int) != (i : Int)) = false := by simp
  have hbl : Below w.heap.size w ((w.alloc (frC e i r d a n cap 25)).alloc (frC e i r d a' n cap' 25)) := ((Below.refl _ _).alloc (Nat.le_refl _) _).alloc (by simp) _
  have HB : Hid (Below w.heap.size w ((w.alloc (frC e i r d a n cap 25)).alloc (frC e i r d a' n cap' 25))) := hbl
  have HY : Hid (isBytes ((w.alloc (frC e i r d a n cap 25)).alloc (frC e i r d a' n cap' 25)) a n cap l) := h.below hbl
  have HY' : Hid (isBytes ((w.alloc (frC e i r d a n cap 25)).alloc (frC e i r d a' n cap' 25)) a' n cap' l) := h'.below hbl
  clear hbl h h'
  go_enter Tryz.func21, Tryz.ntmps21
  go_wp2
  go_loopw [5] (fun ii wr => ∃ k : Nat, k ≤ n ∧ ii = .int .i64 (k : Int) ∧ ∃ q, wr = ((w.alloc (frC e i r d a n cap 25)).alloc (frC e i r d a' n cap' 25)).drewN q) (fun ii _ => n - (intOf ii).toNat)
  case atStart => exact ⟨0, Nat.zero_le _, rfl, 0, rfl⟩
  case round =>
    obtain ⟨k, hk, rfl, q, rfl⟩ := hrel
    by_cases hlt : k < n
    · have hl : l ≠ [] := by intro e; have := HY.out.len; rw [e] at this; simp at this; omega
      obtain ⟨g1, o1, rfl, k1⟩ := HY.out.cells hl
      obtain ⟨g2, o2, rfl, k2⟩ := HY'.out.cells hl
      have hkl : k < l.length := by have := HY.out.len; omega
      have c1 := k1 k hkl
      have c2 := k2 k hkl
      have hx : (((l[k] : Nat) : Int) != ((l[k] : Nat) : Int)) = false := by simp
      have b0 : ((w.alloc (frC e i r d (some ⟨g1, o1, none⟩) n cap 25)).alloc (frC e i r d (some ⟨g2, o2, none⟩) n cap' 25)).cell? ⟨w.heap.size, 4, none⟩ = some (.slice (some ⟨g1, o1, none⟩) n cap) := by go_simp
      have b1 : ((w.alloc (frC e i r d (some ⟨g1, o1, none⟩) n cap 25)).alloc (frC e i r d (some ⟨g2, o2, none⟩) n cap' 25)).cell? ⟨w.heap.size + 1, 4, none⟩ = some (.slice (some ⟨g2, o2, none⟩) n cap') := by go_simp
      generalize l[k] = x at *
      clear k1 k2 hkl hl
      generalize (w.alloc (frC e i r d (some ⟨g1, o1, none⟩) n cap 25)).alloc (frC e i r d (some ⟨g2, o2, none⟩) n cap' 25) = W at *
      go_wp2
      go_quiet (fail)
      go_wp2
      go_roundw
      case rel => exact ⟨k + 1, by omega, by go_num, _, rfl⟩
      case measure => simp [intOf]; omega
    · go_wp2
      go_ret
      exact ⟨rfl, below_drewN HB.out q⟩
set_option maxHeartbeats 1000000 in
theorem wByte_any (w : World) (a : Option Addr) (n cap : Nat) (l : List Nat) (i : Nat) (h : isBytes w a n cap l) (hn : n ≤ 1048576) (hi : i ≤ 100) :
    Calls Tryz.prog 22 #[.slice a n cap, .int .i64 (i : Int)] w fun o w' => ∃ x : Nat, o = .returned (.int .i64 (x : Int)) ∧ x < 256 ∧ Below w.heap.size w w' := by
  by_cases hl : l = []
  · subst hl
    have hn0 : n = 0 := h.len
    subst hn0
    clear h
    have hm : IntKind.i64.wrap (7 * (i : Int)) = 7 * (i : Int) := by simp [IntKind.wrap, IntKind.bits, IntKind.signed]; omega
    go_enter Tryz.func22, Tryz.ntmps22
    go_wp2
    go_ret
    exact ⟨7 * i % 256, by congr 2, by omega, Below.refl _ _⟩
  · obtain ⟨g, off, rfl, hc⟩ := h.cells hl
    have hlen := h.len
    have hpos : 0 < l.length := List.length_pos_iff.2 hl
    have hm : i % n < l.length := by rw [hlen]; exact Nat.mod_lt _ hpos
    have hcell := hc (i % n) hm
    have hx : l[i % n] < 256 := h.small _ (List.getElem_mem hm)
    generalize l[i % n] = x at *
    have hn0 : ¬ (n : Int) = 0 := by omega
    have hmod : (i : Int).tmod (n : Int) = ((i % n : Nat) : Int) := by rw [Int.tmod_eq_emod_of_nonneg (by omega)]; omega
    have hmod2 : ((i % n : Nat) : Int) < (n : Int) := by omega
    have HX : Hid (x < 256) := hx
    clear h hc hl hx
    subst hlen
    generalize hk : i % l.length = k at *
    clear hk
    go_enter Tryz.func22, Tryz.ntmps22
    go_wp2
    go_ret
    exact ⟨x, by rw [show wrap64 (x : Int) = (x : Int) by unfold wrap64; have := HX.out; omega]; rfl, HX.out, Below.refl _ _⟩
def frB (W : World) (b : Nat) (e : Bool) (i : Nat) (r : Bool) (d : Int) (v : Value) : Prop := W.heap[b]? = some (.cells #[.bool e, .int .u32 (i : Int), .bool r, .int .i64 d, v] 25 (0, 0))
theorem frB.cells {W : World} {b : Nat} {e : Bool} {i : Nat} {r : Bool} {d : Int} {v : Value} (h : frB W b e i r d v) :
    W.cell? ⟨b, 0, none⟩ = some (.bool e) ∧ W.cell? ⟨b, 1, none⟩ = some (.int .u32 (i : Int)) ∧ W.cell? ⟨b, 2, none⟩ = some (.bool r) ∧ W.cell? ⟨b, 3, none⟩ = some (.int .i64 d) ∧ W.cell? ⟨b, 4, none⟩ = some v ∧
    W.frozen? ⟨b, 0, none⟩ = false ∧ W.frozen? ⟨b, 1, none⟩ = false ∧ W.frozen? ⟨b, 2, none⟩ = false ∧ W.frozen? ⟨b, 3, none⟩ = false ∧ W.frozen? ⟨b, 4, none⟩ = false := by
  unfold frB at h
  refine ⟨?_, ?_, ?_, ?_, ?_, ?_, ?_, ?_, ?_, ?_⟩ <;> simp [World.cell?, World.frozen?, h]
theorem frB.lt {W : World} {b : Nat} {e : Bool} {i : Nat} {r : Bool} {d : Int} {v : Value} (h : frB W b e i r d v) : b < W.heap.size := lt_of_block h
def setF (W : World) (b : Nat) (e : Bool) (i : Nat) (r : Bool) (d : Int) (v : Value) : World :=
  ((((W.setCell ⟨b, 0, none⟩ (.bool e)).setCell ⟨b, 1, none⟩ (.int .u32 (i : Int))).setCell ⟨b, 2, none⟩ (.bool r)).setCell ⟨b, 3, none⟩ (.int .i64 d)).setCell ⟨b, 4, none⟩ v
theorem setF_same {W : World} {b : Nat} {e : Bool} {i : Nat} {r : Bool} {d : Int} {v : Value} (h : frB W b e i r d v) (e' : Bool) (i' : Nat) (r' : Bool) (d' : Int) (v' : Value) : frB (setF W b e' i' r' d' v') b e' i' r' d' v' := by
  unfold frB at h
  have h0 := heap_setCell_same _ b 0 _ _ (Value.bool e') h
  have h1 := heap_setCell_same _ b 1 _ _ (Value.int .u32 (i' : Int)) h0
  have h2 := heap_setCell_same _ b 2 _ _ (Value.bool r') h1
  have h3 := heap_setCell_same _ b 3 _ _ (Value.int .i64 d') h2
  have h4 := heap_setCell_same _ b 4 _ _ v' h3
  unfold frB setF
  rw [h4]
  simp
theorem setF_other (W : World) (b : Nat) (e : Bool) (i : Nat) (r : Bool) (d : Int) (v : Value) (c : Nat) (h : c ≠ b) : (setF W b e i r d v).heap[c]? = W.heap[c]? := by
  have n : ∀ j, (⟨b, j, none⟩ : Addr).block ≠ c := fun j e => h e.symm
  unfold setF
  rw [heap_setCell_other _ ⟨b, 4, none⟩ c _ (by first | exact h | exact n 4), heap_setCell_other _ ⟨b, 3, none⟩ c _ (by first | exact h | exact n 3), heap_setCell_other _ ⟨b, 2, none⟩ c _ (by first | exact h | exact n 2), heap_setCell_other _ ⟨b, 1, none⟩ c _ (by first | exact h | exact n 1), heap_setCell_other _ ⟨b, 0, none⟩ c _ (by first | exact h | exact n 0)]
theorem setF_below {B : Nat} {w0 W : World} {b : Nat} (h : Below B w0 W) (hb : B ≤ b) (e : Bool) (i : Nat) (r : Bool) (d : Int) (v : Value) : Below B w0 (setF W b e i r d v) :=
  ((((h.setCell (p := ⟨b, 0, none⟩) hb _).setCell (p := ⟨b, 1, none⟩) hb _).setCell (p := ⟨b, 2, none⟩) hb _).setCell (p := ⟨b, 3, none⟩) hb _).setCell (p := ⟨b, 4, none⟩) hb _
theorem bytes_ne {W : World} {b : Nat} {e : Bool} {i : Nat} {r : Bool} {d : Int} {vo : Option Addr} {vn vc : Nat} {a : Option Addr} {n cap : Nat} {l : List Nat} (h : frB W b e i r d (.slice vo vn vc)) (hy : isBytes W a n cap l) (hl : l ≠ []) : ∀ x, a = some x → x.block ≠ b := by
  intro x hx hb
  obtain ⟨g, off, e', hc⟩ := hy.cells hl
  rw [hx] at e'
  cases e'
  have h0 := hc 0 (List.length_pos_iff.2 hl)
  unfold frB at h
  have hb' : g = b := hb
  subst hb'
  simp only [World.cell?, h] at h0
  match off, h0 with
  | 0, h0 => simp at h0
  | 1, h0 => simp at h0
  | 2, h0 => simp at h0
  | 3, h0 => simp at h0
  | 4, h0 => simp at h0
  | o + 5, h0 => simp at h0
theorem setF_bytes {W : World} {b : Nat} {e : Bool} {i : Nat} {r : Bool} {d : Int} {vo : Option Addr} {vn vc : Nat} {a : Option Addr} {n cap : Nat} {l : List Nat} (h : frB W b e i r d (.slice vo vn vc)) (hy : isBytes W a n cap l) (e' : Bool) (i' : Nat) (r' : Bool) (d' : Int) (v' : Value) : isBytes (setF W b e' i' r' d' v') a n cap l := by
  refine ⟨hy.len, hy.cap, hy.small, fun hl => ?_⟩
  obtain ⟨g, off, e0, hc⟩ := hy.cells hl
  have hne := bytes_ne h hy hl _ e0
  refine ⟨g, off, e0, fun j hj => ?_⟩
  have := hc j hj
  simp only [World.cell?] at this ⊢
  rw [setF_other W b e' i' r' d' v' g hne]
  exact this
structure wpI (w0 : World) (F G R1 R2 : Nat) (e1 : Bool) (i1 : Nat) (r1 : Bool) (d1 : Int) (ao1 : Option Addr) (n1 cp1 : Nat) (l1 : List Nat) (e2 : Bool) (i2 : Nat) (r2 : Bool) (d2 : Int) (ao2 : Option Addr) (n2 cp2 : Nat) (l2 : List Nat) (W : World) : Prop where
  f : frB W F e1 i1 r1 d1 (.slice ao1 n1 cp1)
  y1 : isBytes W ao1 n1 cp1 l1
  g : frB W G e2 i2 r2 d2 (.slice ao2 n2 cp2)
  y2 : isBytes W ao2 n2 cp2 l2
  z1 : frB W R1 false 0 false 0 (.slice none 0 0)
  z2 : frB W R2 false 0 false 0 (.slice none 0 0)
  bel : Below w0.heap.size w0 W
  dis : F ≠ G ∧ F ≠ R1 ∧ F ≠ R2 ∧ G ≠ R1 ∧ G ≠ R2 ∧ R1 ≠ R2 ∧ w0.heap.size ≤ F ∧ w0.heap.size ≤ G ∧ w0.heap.size ≤ R1 ∧ w0.heap.size ≤ R2
theorem wpI.below {w0 : World} {F G R1 R2 : Nat} {e1 : Bool} {i1 : Nat} {r1 : Bool} {d1 : Int} {ao1 : Option Addr} {n1 cp1 : Nat} {l1 : List Nat} {e2 : Bool} {i2 : Nat} {r2 : Bool} {d2 : Int} {ao2 : Option Addr} {n2 cp2 : Nat} {l2 : List Nat} {W W' : World} (h : wpI w0 F G R1 R2 e1 i1 r1 d1 ao1 n1 cp1 l1 e2 i2 r2 d2 ao2 n2 cp2 l2 W) (hb : Below W.heap.size W W') : wpI w0 F G R1 R2 e1 i1 r1 d1 ao1 n1 cp1 l1 e2 i2 r2 d2 ao2 n2 cp2 l2 W' :=
  ⟨(hb.block _ h.f.lt).trans h.f, h.y1.below hb, (hb.block _ h.g.lt).trans h.g, h.y2.below hb, (hb.block _ h.z1.lt).trans h.z1, (hb.block _ h.z2.lt).trans h.z2, h.bel.trans (hb.mono (by have := h.f.lt; have := h.dis; omega)), h.dis⟩
theorem nilBytes (W : World) : isBytes W none 0 0 [] := ⟨rfl, Nat.le_refl _, by simp, fun h => absurd rfl h⟩
theorem wpI.setf {w0 : World} {F G R1 R2 : Nat} {e1 : Bool} {i1 : Nat} {r1 : Bool} {d1 : Int} {ao1 : Option Addr} {n1 cp1 : Nat} {l1 : List Nat} {e2 : Bool} {i2 : Nat} {r2 : Bool} {d2 : Int} {ao2 : Option Addr} {n2 cp2 : Nat} {l2 : List Nat} {W : World} (h : wpI w0 F G R1 R2 e1 i1 r1 d1 ao1 n1 cp1 l1 e2 i2 r2 d2 ao2 n2 cp2 l2 W) (e : Bool) (i : Nat) (r : Bool) : wpI w0 F G R1 R2 e i r 0 none 0 0 [] e2 i2 r2 d2 ao2 n2 cp2 l2 (setF W F e i r 0 (.slice none 0 0)) := by
  obtain ⟨q1, q2, q3, q4, q5, q6, q7, q8, q9, q10⟩ := h.dis
  exact ⟨setF_same h.f _ _ _ _ _, nilBytes _, (setF_other W F e i r 0 _ G (Ne.symm q1)).trans h.g, setF_bytes h.f h.y2 _ _ _ _ _, (setF_other W F e i r 0 _ R1 (Ne.symm q2)).trans h.z1, (setF_other W F e i r 0 _ R2 (Ne.symm q3)).trans h.z2, setF_below h.bel q7 _ _ _ _ _, h.dis⟩
theorem wpI.setg {w0 : World} {F G R1 R2 : Nat} {e1 : Bool} {i1 : Nat} {r1 : Bool} {d1 : Int} {ao1 : Option Addr} {n1 cp1 : Nat} {l1 : List Nat} {e2 : Bool} {i2 : Nat} {r2 : Bool} {d2 : Int} {ao2 : Option Addr} {n2 cp2 : Nat} {l2 : List Nat} {W : World} (h : wpI w0 F G R1 R2 e1 i1 r1 d1 ao1 n1 cp1 l1 e2 i2 r2 d2 ao2 n2 cp2 l2 W) (e : Bool) (i : Nat) (r : Bool) : wpI w0 F G R1 R2 e1 i1 r1 d1 ao1 n1 cp1 l1 e i r 0 none 0 0 [] (setF W G e i r 0 (.slice none 0 0)) := by
  obtain ⟨q1, q2, q3, q4, q5, q6, q7, q8, q9, q10⟩ := h.dis
  exact ⟨(setF_other W G e i r 0 _ F q1).trans h.f, setF_bytes h.g h.y1 _ _ _ _ _, setF_same h.g _ _ _ _ _, nilBytes _, (setF_other W G e i r 0 _ R1 (Ne.symm q4)).trans h.z1, (setF_other W G e i r 0 _ R2 (Ne.symm q5)).trans h.z2, setF_below h.bel q8 _ _ _ _ _, h.dis⟩
theorem wpI.fin {w0 : World} {F G R1 R2 : Nat} {e1 : Bool} {i1 : Nat} {r1 : Bool} {d1 : Int} {ao1 : Option Addr} {n1 cp1 : Nat} {l1 : List Nat} {e2 : Bool} {i2 : Nat} {r2 : Bool} {d2 : Int} {ao2 : Option Addr} {n2 cp2 : Nat} {l2 : List Nat} {W : World} (h : wpI w0 F G R1 R2 e1 i1 r1 d1 ao1 n1 cp1 l1 e2 i2 r2 d2 ao2 n2 cp2 l2 W) :
    isBytes (setF (setF W R1 e1 i1 r1 d1 (.slice ao1 n1 cp1)) R2 e2 i2 r2 d2 (.slice ao2 n2 cp2)) ao1 n1 cp1 l1 ∧ isBytes (setF (setF W R1 e1 i1 r1 d1 (.slice ao1 n1 cp1)) R2 e2 i2 r2 d2 (.slice ao2 n2 cp2)) ao2 n2 cp2 l2 ∧ Below w0.heap.size w0 (setF (setF W R1 e1 i1 r1 d1 (.slice ao1 n1 cp1)) R2 e2 i2 r2 d2 (.slice ao2 n2 cp2)) := by
  obtain ⟨q1, q2, q3, q4, q5, q6, q7, q8, q9, q10⟩ := h.dis
  have h2 : frB (setF W R1 e1 i1 r1 d1 (.slice ao1 n1 cp1)) R2 false 0 false 0 (.slice none 0 0) := (setF_other W R1 _ _ _ _ _ R2 (Ne.symm q6)).trans h.z2
  exact ⟨setF_bytes h2 (setF_bytes h.z1 h.y1 _ _ _ _ _) _ _ _ _ _, setF_bytes h2 (setF_bytes h.z1 h.y2 _ _ _ _ _) _ _ _ _ _, setF_below (setF_below h.bel q9 _ _ _ _ _) q10 _ _ _ _ _⟩
end Go.Proofs.YtaamahohdnbpiaaGreat
