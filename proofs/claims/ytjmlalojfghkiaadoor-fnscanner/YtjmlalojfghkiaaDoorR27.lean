import Derived.Test.YtjmlalojfghkiaaDoorR26
import Derived.Deep.AppendLies
import Derived.Deep.RegionLaw
namespace Go.Proofs.YtjmlalojfghkiaaDoor.J
open Go.RowKit
/-- a frame being drawn: in block F; the result's block R; the source in block b -/
structure gfI (w0 wS : World) (b : Nat) (a : Option Addr) (n cap : Nat) (l : List Nat) (i F R : Nat) (e : Bool) (id : Nat) (r : Bool) (d : Int) (v : Value) (dl : List Nat) (W : World) : Prop where
  src : srcI w0 b a n cap l i W
  gb : wS.grownBy W (some b)
  fr : W.heap[F]? = some (.cells #[.bool e, .int .u32 (id : Int), .bool r, .int .i64 d, v] 29 (0, 0))
  res : W.heap[R]? = some (.cells #[.bool false, .int .u32 0, .bool false, .int .i64 0, .slice none 0 0] 29 (0, 0))
  own : ownsB W wS.heap.size v dl
  ne : v.ownBlock ≠ some F ∧ v.ownBlock ≠ some R
  dis : F ≠ R ∧ b < wS.heap.size ∧ wS.heap.size ≤ F ∧ wS.heap.size ≤ R
theorem gfI.cells {w0 wS : World} {b : Nat} {a : Option Addr} {n cap : Nat} {l : List Nat} {i F R : Nat} {e : Bool} {id : Nat} {r : Bool} {d : Int} {v : Value} {dl : List Nat} {W : World} (h : gfI w0 wS b a n cap l i F R e id r d v dl W) :
    W.cell? ⟨F, 0, none⟩ = some (.bool e) ∧ W.cell? ⟨F, 1, none⟩ = some (.int .u32 (id : Int)) ∧ W.cell? ⟨F, 2, none⟩ = some (.bool r) ∧ W.cell? ⟨F, 3, none⟩ = some (.int .i64 d) ∧ W.cell? ⟨F, 4, none⟩ = some v ∧
    W.frozen? ⟨F, 0, none⟩ = false ∧ W.frozen? ⟨F, 1, none⟩ = false ∧ W.frozen? ⟨F, 2, none⟩ = false ∧ W.frozen? ⟨F, 3, none⟩ = false ∧ W.frozen? ⟨F, 4, none⟩ = false := by
  have hr := h.fr
  refine ⟨?_, ?_, ?_, ?_, ?_, ?_, ?_, ?_, ?_, ?_⟩ <;> simp [World.cell?, World.frozen?, hr]
theorem gfI.cellsR {w0 wS : World} {b : Nat} {a : Option Addr} {n cap : Nat} {l : List Nat} {i F R : Nat} {e : Bool} {id : Nat} {r : Bool} {d : Int} {v : Value} {dl : List Nat} {W : World} (h : gfI w0 wS b a n cap l i F R e id r d v dl W) :
    W.cell? ⟨R, 0, none⟩ = some (.bool false) ∧ W.cell? ⟨R, 1, none⟩ = some (.int .u32 0) ∧ W.cell? ⟨R, 2, none⟩ = some (.bool false) ∧ W.cell? ⟨R, 3, none⟩ = some (.int .i64 0) ∧ W.cell? ⟨R, 4, none⟩ = some (.slice none 0 0) ∧
    W.frozen? ⟨R, 0, none⟩ = false ∧ W.frozen? ⟨R, 1, none⟩ = false ∧ W.frozen? ⟨R, 2, none⟩ = false ∧ W.frozen? ⟨R, 3, none⟩ = false ∧ W.frozen? ⟨R, 4, none⟩ = false := by
  have hr := h.res
  refine ⟨?_, ?_, ?_, ?_, ?_, ?_, ?_, ?_, ?_, ?_⟩ <;> simp [World.cell?, World.frozen?, hr]
theorem gfI.step {w0 wS : World} {b : Nat} {a : Option Addr} {n cap : Nat} {l : List Nat} {i i' F R : Nat} {e : Bool} {id : Nat} {r : Bool} {d : Int} {v : Value} {dl : List Nat} {W W' : World} (h : gfI w0 wS b a n cap l i F R e id r d v dl W)
    (hs : srcI w0 b a n cap l i' W') (hg : W.grownBy W' (some b)) : gfI w0 wS b a n cap l i' F R e id r d v dl W' := by
  obtain ⟨d1, d2, d3, d4⟩ := h.dis
  exact ⟨hs, gb_trans h.gb hg, (hg.block F (lt_of_block h.fr) (by simp; omega)).trans h.fr, (hg.block R (lt_of_block h.res) (by simp; omega)).trans h.res, h.own.gb hg d2, h.ne, h.dis⟩
theorem gb_setF {w0 W : World} {b F : Nat} (h : w0.grownBy W (some b)) (hF : w0.heap.size ≤ F) (j : Nat) (x : Value) : w0.grownBy (W.setCell ⟨F, j, none⟩ x) (some b) :=
  gb_below h ((Below.refl _ _).setCell (by exact hF) x)
theorem gf_own {W : World} {B F : Nat} {v : Value} {l : List Nat} (j : Nat) (x : Value) (h : ownsB W B v l) (hne : v.ownBlock ≠ some F) : ownsB (W.setCell ⟨F, j, none⟩ x) B v l := by
  refine h.otherBlock (fun i hi => heap_setCell_other W ⟨F, j, none⟩ i x (fun e => ?_))
  have e' : i = F := e
  exact hne (e' ▸ hi)
theorem gfI.setAny {w0 wS : World} {b : Nat} {a : Option Addr} {n cap : Nat} {l : List Nat} {i F R : Nat} {e : Bool} {id : Nat} {r : Bool} {d : Int} {v : Value} {dl : List Nat} {W : World} (h : gfI w0 wS b a n cap l i F R e id r d v dl W) (j : Nat) (x : Value) (e' : Bool) (id' : Nat) (r' : Bool) (d' : Int)
    (hx : (#[.bool e, .int .u32 (id : Int), .bool r, .int .i64 d, v] : Array Value).set! j x = #[.bool e', .int .u32 (id' : Int), .bool r', .int .i64 d', v]) : gfI w0 wS b a n cap l i F R e' id' r' d' v dl (W.setCell ⟨F, j, none⟩ x) := by
  obtain ⟨d1, d2, d3, d4⟩ := h.dis
  have hs := h.src
  refine ⟨hs.below (B := b + 1) (by refine (Below.refl _ _).setCell (p := ⟨F, j, none⟩) (show b + 1 ≤ F by omega) x) (by omega), gb_setF h.gb d3 j x, ?_, (heap_setCell_other W ⟨F, j, none⟩ R _ (fun e => d1 e.symm)).trans h.res, gf_own _ _ h.own h.ne.1, h.ne, h.dis⟩
  rw [heap_setCell_same W F j _ _ _ h.fr, ← hx]
  simp
/-- one letter put behind a row of its own, at a step of a region that draws its order -/
theorem step_app2 {ci : Int} {ops : Array Oper} {o : Oper} {a : Act} {K : Act → World → Prop} {Q : Exit → Act → World → Prop} {E : Prop} (wr W : World) (hW : W = wr.alloc (.cells #[.int .u8 ci] 5)) (hgd : o.guard = none) (s x : Operand)
    (ho : o.op = .call { callee := .builtin .append, args := #[s, x], argTypes := #[23, 23] })
    (B : Nat) (v : Value) (l : List Nat) (c : Nat) (hci : ci = (c : Int)) (hs : a.eval s = v) (hown : ownsB wr B v l)
    (hx : a.eval x = .slice (some ⟨wr.heap.size, 0, none⟩) 1 1) (hlen : l.length ≤ 100000000) (hB : B ≤ wr.heap.size)
    (h : ∀ ao cap' w', ownsB w' B (.slice ao (l.length + 1) cap') (l ++ [c]) → (wr.alloc (.cells #[.int .u8 (c : Int)] 5)).grownBy w' v.ownBlock → (∀ g, g < wr.heap.size → v.ownBlock ≠ some g → (Value.slice ao (l.length + 1) cap').ownBlock ≠ some g) → K (a.put o.dst (.slice ao (l.length + 1) cap')) w') :
    if Region.wanted o (yielded ops a.tmps) = true then Oper.wp Tryd.prog o a W K Q else E := by
  subst hci hW
  obtain ⟨i0, hi, hz0, hz1, hz2⟩ := info_parts Tryd.info5
  refine step_append_lies _ hgd s x 23 ho B 5 i0 (.int .u8 0) 1 1 Tryd.underlying23 hi hz0 hz1 hz2 rfl (by decide) v l.length (bv l) hs (World.ownsRow.alloc hown _) ⟨wr.heap.size, 0, none⟩ 1 1 [.int .u8 (c : Int)] hx rfl ?_ ?_ (by decide) ?_ ?_ ?_ (wr.heap.size + 1) (by simp) ?_
  · intro j u hj
    match j, hj with
    | 0, hj => simp at hj; subst hj; simp [Addr.add]
  · intro u hu; simp at hu; subst hu; rfl
  · unfold maxLen; omega
  · omega
  · simp; omega
  · intro gg cap w' ho' hg hat hlt
    have e1 : bv (l ++ [c]) = bv l ++ [.int .u8 (c : Int)] := by simp [bv]
    refine h (some ⟨gg, 0, none⟩) cap w' ?_ hg (fun g hgl hne => ?_)
    · unfold ownsB
      rw [e1, List.length_append]
      exact ho'
    · intro e
      simp [Value.ownBlock] at e
      rcases hat with hat | hat
      · exact hne (e ▸ hat)
      · omega
theorem gfI.app {w0 wS : World} {b : Nat} {a : Option Addr} {n cap : Nat} {l : List Nat} {i F R : Nat} {e : Bool} {id : Nat} {r : Bool} {d : Int} {v v' : Value} {dl dl' : List Nat} {W W' : World} {o : Obj} (h : gfI w0 wS b a n cap l i F R e id r d v dl W)
    (ho : ownsB W' wS.heap.size v' dl') (hg : (W.alloc o).grownBy W' v.ownBlock) (hk : ∀ g, g < W.heap.size → v.ownBlock ≠ some g → v'.ownBlock ≠ some g) :
    gfI w0 wS b a n cap l i F R e id r d v' dl' (W'.setCell ⟨F, 4, none⟩ v') := by
  obtain ⟨d1, d2, d3, d4⟩ := h.dis
  have hz : W.heap.size ≤ W'.heap.size := Nat.le_trans (by simp) hg.size
  have kb : ∀ g, g < W.heap.size → v.ownBlock ≠ some g → W'.heap[g]? = W.heap[g]? := fun g h1 h2 => (hg.block g (by simp; omega) (fun e => h2 e.symm)).trans (Below.heap_alloc W _ g h1)
  have hvb : ∀ g, g < wS.heap.size → v.ownBlock ≠ some g := fun g h1 e => by have := (World.ownsRow.lt h.own g e).1; omega
  have hbW : b < W.heap.size := Nat.lt_of_lt_of_le d2 h.gb.size
  obtain ⟨s, hs⟩ := h.src.at_
  have hs' : srcAt W' b a n cap i s := (kb b hbW (hvb b d2)).trans hs
  have hgb : wS.grownBy W' (some b) := ⟨hg.os.trans h.gb.os, hg.tape.trans h.gb.tape, hg.output.trans h.gb.output, Nat.le_trans h.gb.size hz, fun k h1 h2 => (kb k (Nat.lt_of_lt_of_le h1 h.gb.size) (hvb k h1)).trans (h.gb.block k h1 h2)⟩
  have hw0 : w0.heap.size ≤ b := h.src.hb
  have hb0 : Below w0.heap.size w0 W' := by
    have e1 : Below w0.heap.size w0 (W.alloc o) := h.src.bel.alloc h.src.bel.size _
    exact e1.grown hg (by have := h.src.bel.size; simp; omega) (fun k e => by have := (World.ownsRow.lt h.own k e).1; omega)
  have hs2 : srcI w0 b a n cap l i W' := ⟨⟨s, hs'⟩, hb0, h.src.by_, hw0⟩
  have kF := kb F (lt_of_block h.fr) h.ne.1
  have kR := kb R (lt_of_block h.res) h.ne.2
  refine ⟨hs2.below (B := b + 1) ((Below.refl _ _).setCell (p := ⟨F, 4, none⟩) (show b + 1 ≤ F by omega) v') (by omega), gb_setF hgb d3 4 v', ?_, (heap_setCell_other W' ⟨F, 4, none⟩ R _ (fun e => d1 e.symm)).trans (kR.trans h.res), gf_own _ _ ho (hk F (lt_of_block h.fr) h.ne.1), ⟨hk F (lt_of_block h.fr) h.ne.1, hk R (lt_of_block h.res) h.ne.2⟩, h.dis⟩
  rw [heap_setCell_same W' F 4 _ _ _ (kF.trans h.fr)]; simp
theorem gf_keep {w0 wS : World} {b : Nat} {a : Option Addr} {n cap : Nat} {l : List Nat} {i F R : Nat} {e : Bool} {id : Nat} {r : Bool} {d : Int} {v : Value} {dl : List Nat} {W W' : World} {o : Obj} (h : gfI w0 wS b a n cap l i F R e id r d v dl W)
    (hg : (W.alloc o).grownBy W' v.ownBlock) : W'.cell? ⟨F, 4, none⟩ = some v ∧ W'.frozen? ⟨F, 4, none⟩ = false := by
  have h1 := ((hg.block F (by simp; exact Nat.lt_succ_of_lt (lt_of_block h.fr)) (fun e => h.ne.1 e.symm)).trans (Below.heap_alloc W _ F (lt_of_block h.fr))).trans h.fr
  constructor <;> simp [World.cell?, World.frozen?, h1]
theorem gf_cellA {w0 wS : World} {b : Nat} {a : Option Addr} {n cap : Nat} {l : List Nat} {i F R : Nat} {e : Bool} {id : Nat} {r : Bool} {d : Int} {v : Value} {dl : List Nat} {W : World} (h : gfI w0 wS b a n cap l i F R e id r d v dl W) (o : Obj) : (W.alloc o).cell? ⟨F, 4, none⟩ = some v := by
  have h1 := (Below.heap_alloc W o F (lt_of_block h.fr)).trans h.fr
  simp [World.cell?, h1]
theorem small_snoc {dl : List Nat} {x : Nat} (h : ∀ y ∈ dl, y < 256) (hx : x < 256) : ∀ y ∈ dl ++ [x], y < 256 := by
  intro y hy
  rw [List.mem_append, List.mem_singleton] at hy
  rcases hy with hy | rfl
  · exact h y hy
  · exact hx
structure grI (w0 wS : World) (b : Nat) (a : Option Addr) (n cap : Nat) (l : List Nat) (i R : Nat) (W : World) : Prop where
  src : srcI w0 b a n cap l i W
  gb : wS.grownBy W (some b)
  res : W.heap[R]? = some (.cells #[.bool false, .int .u32 0, .bool false, .int .i64 0, .slice none 0 0] 29 (0, 0))
  dis : b < wS.heap.size ∧ wS.heap.size ≤ R
theorem grI.step {w0 wS : World} {b : Nat} {a : Option Addr} {n cap : Nat} {l : List Nat} {i i' R : Nat} {W W' : World} (h : grI w0 wS b a n cap l i R W) (hs : srcI w0 b a n cap l i' W') (hg : W.grownBy W' (some b)) : grI w0 wS b a n cap l i' R W' := by
  obtain ⟨d2, d4⟩ := h.dis
  exact ⟨hs, gb_trans h.gb hg, (hg.block R (lt_of_block h.res) (by simp; omega)).trans h.res, h.dis⟩
theorem grI.start {w0 w : World} {b : Nat} {a : Option Addr} {n cap : Nat} {l : List Nat} {i : Nat} (h : srcI w0 b a n cap l i w) :
    grI w0 w b a n cap l i w.heap.size (w.alloc (.cells #[.bool false, .int .u32 0, .bool false, .int .i64 0, .slice none 0 0] 29)) :=
  ⟨h.below ((Below.refl w.heap.size w).alloc (Nat.le_refl _) _) h.lt, gb_below ⟨rfl, rfl, rfl, Nat.le_refl _, fun _ _ _ => rfl⟩ ((Below.refl w.heap.size w).alloc (Nat.le_refl _) _), heap_alloc_new w _, h.lt, Nat.le_refl _⟩
theorem gfI.start {w0 wS : World} {b : Nat} {a : Option Addr} {n cap : Nat} {l : List Nat} {i R : Nat} {W : World} (h : grI w0 wS b a n cap l i R W) (e r : Bool) (d : Int) :
    gfI w0 wS b a n cap l i (W.heap.size + 1) R e 0 r d (.slice (some ⟨W.heap.size, 0, none⟩) 0 0) [] ((W.alloc (.cells #[] 5)).alloc (.cells #[.bool e, .int .u32 0, .bool r, .int .i64 d, .slice (some ⟨W.heap.size, 0, none⟩) 0 0] 29)) := by
  obtain ⟨d2, d4⟩ := h.dis
  have hz := h.gb.size
  have hR := lt_of_block h.res
  have hB : Below W.heap.size W ((W.alloc (.cells #[] 5)).alloc (.cells #[.bool e, .int .u32 0, .bool r, .int .i64 d, .slice (some ⟨W.heap.size, 0, none⟩) 0 0] 29)) := ((Below.refl _ _).alloc (Nat.le_refl _) _).alloc (by simp) _
  have e1 : (W.alloc (.cells #[] 5)).heap.size = W.heap.size + 1 := by simp
  refine ⟨h.src.below hB h.src.lt, gb_below h.gb (hB.mono hz), ?_, (hB.block _ hR).trans h.res, World.ownsRow.alloc (own_nil W wS.heap.size hz) _, ⟨?_, ?_⟩, by omega, by omega, by omega, by omega⟩
  · have := heap_alloc_new (W.alloc (.cells #[] 5)) (.cells #[.bool e, .int .u32 0, .bool r, .int .i64 d, .slice (some ⟨W.heap.size, 0, none⟩) 0 0] 29)
    rw [e1] at this
    exact this
  · simp [Value.ownBlock]
  · simp [Value.ownBlock]; omega
theorem dl_range (r : Bool) (d : Nat) : ∃ m : Nat, dl r (d : Int) = (m : Int) ∧ m ≤ 8 := by
  unfold dl
  cases r
  · by_cases h : 8 < (d : Int)
    · exact ⟨8, by simp [h], by omega⟩
    · exact ⟨d, by simp [h], by omega⟩
  · exact ⟨0, by simp, by omega⟩
theorem gfI.alloc {w0 wS : World} {b : Nat} {a : Option Addr} {n cap : Nat} {l : List Nat} {i F R : Nat} {e : Bool} {id : Nat} {r : Bool} {d : Int} {v : Value} {dl : List Nat} {W : World} (h : gfI w0 wS b a n cap l i F R e id r d v dl W) (o : Obj) : gfI w0 wS b a n cap l i F R e id r d v dl (W.alloc o) := by
  have hB : Below W.heap.size W (W.alloc o) := (Below.refl _ _).alloc (Nat.le_refl _) _
  exact ⟨h.src.below hB h.src.lt, gb_below h.gb (hB.mono h.gb.size), (hB.block _ (lt_of_block h.fr)).trans h.fr, (hB.block _ (lt_of_block h.res)).trans h.res, World.ownsRow.alloc h.own _, h.ne, h.dis⟩
theorem gfI.drew {w0 wS : World} {b : Nat} {a : Option Addr} {n cap : Nat} {l : List Nat} {i F R : Nat} {e : Bool} {id : Nat} {r : Bool} {d : Int} {v : Value} {dl : List Nat} {W : World} (h : gfI w0 wS b a n cap l i F R e id r d v dl W) : gfI w0 wS b a n cap l i F R e id r d v dl W.drew := by
  have hB : Below W.heap.size W W.drew := (Below.refl _ _).drew
  exact ⟨h.src.below hB h.src.lt, gb_below h.gb (hB.mono h.gb.size), h.fr, h.res, World.ownsRow.drew h.own, h.ne, h.dis⟩
theorem gf_end {w0 wS : World} {b : Nat} {a : Option Addr} {n cap : Nat} {l : List Nat} {i F R : Nat} {e : Bool} {id : Nat} {r : Bool} {d : Int} {v : Value} {dl : List Nat} {W : World} (h : gfI w0 wS b a n cap l i F R e id r d v dl W) (x0 x1 x2 x3 x4 : Value) :
    srcI w0 b a n cap l i (((((W.setCell ⟨R, 0, none⟩ x0).setCell ⟨R, 1, none⟩ x1).setCell ⟨R, 2, none⟩ x2).setCell ⟨R, 3, none⟩ x3).setCell ⟨R, 4, none⟩ x4) ∧ ownsB (((((W.setCell ⟨R, 0, none⟩ x0).setCell ⟨R, 1, none⟩ x1).setCell ⟨R, 2, none⟩ x2).setCell ⟨R, 3, none⟩ x3).setCell ⟨R, 4, none⟩ x4) wS.heap.size v dl ∧ wS.grownBy (((((W.setCell ⟨R, 0, none⟩ x0).setCell ⟨R, 1, none⟩ x1).setCell ⟨R, 2, none⟩ x2).setCell ⟨R, 3, none⟩ x3).setCell ⟨R, 4, none⟩ x4) (some b) := by
  obtain ⟨q1, q2, q3, q4⟩ := h.dis
  have nn := h.ne.2
  have hB : Below (b + 1) W (((((W.setCell ⟨R, 0, none⟩ x0).setCell ⟨R, 1, none⟩ x1).setCell ⟨R, 2, none⟩ x2).setCell ⟨R, 3, none⟩ x3).setCell ⟨R, 4, none⟩ x4) := (((((Below.refl _ _).setCell (p := ⟨R, 0, none⟩) (show b + 1 ≤ R by omega) _).setCell (p := ⟨R, 1, none⟩) (show b + 1 ≤ R by omega) _).setCell (p := ⟨R, 2, none⟩) (show b + 1 ≤ R by omega) _).setCell (p := ⟨R, 3, none⟩) (show b + 1 ≤ R by omega) _).setCell (p := ⟨R, 4, none⟩) (show b + 1 ≤ R by omega) _
  exact ⟨h.src.below hB (by omega), gf_own _ _ (gf_own _ _ (gf_own _ _ (gf_own _ _ (gf_own _ _ h.own nn) nn) nn) nn) nn, gb_setF (gb_setF (gb_setF (gb_setF (gb_setF h.gb q4 _ _) q4 _ _) q4 _ _) q4 _ _) q4 _ _⟩
/-- a drawn frame as answer: at most S bytes, a code in D0..D1, at most T choices taken -/
def gfOut (w0 w : World) (b : Nat) (a : Option Addr) (n cap : Nat) (l : List Nat) (i T S : Nat) (D0 D1 : Int) (o : Ending) (w' : World) : Prop :=
  ∃ (e : Bool) (id : Nat) (r : Bool) (d : Int) (ao : Option Addr) (cap' i' : Nat) (dl : List Nat), o = .returned (frV e id r d ao dl.length cap') ∧ ((e = false → id < 2048) ∧ id < 536870912 ∧ (dl.length : Int) = Go.Proofs.YtjmlalojfghkiaaDoor.J.dl r d) ∧ (D0 ≤ d ∧ d ≤ D1) ∧ dl.length ≤ S ∧ (∀ x ∈ dl, x < 256) ∧ i' ≤ i + T ∧ srcI w0 b a n cap l i' w' ∧ ownsB w' w.heap.size (.slice ao dl.length cap') dl ∧ w.grownBy w' (some b)
theorem gfOut.mk {w0 w : World} {b : Nat} {a : Option Addr} {n cap : Nat} {l : List Nat} {i T S : Nat} {D0 D1 : Int} {w' : World} (e : Bool) (id : Nat) (r : Bool) (d : Int) (ao : Option Addr) (cap' i' : Nat) (dl : List Nat) (h1 : (e = false → id < 2048) ∧ id < 536870912 ∧ (dl.length : Int) = Go.Proofs.YtjmlalojfghkiaaDoor.J.dl r d) (h2 : D0 ≤ d ∧ d ≤ D1) (h3 : dl.length ≤ S) (h4 : ∀ x ∈ dl, x < 256) (h5 : i' ≤ i + T) (h6 : srcI w0 b a n cap l i' w') (h7 : ownsB w' w.heap.size (.slice ao dl.length cap') dl) (h8 : w.grownBy w' (some b)) : gfOut w0 w b a n cap l i T S D0 D1 (.returned (frV e id r d ao dl.length cap')) w' :=
  ⟨e, id, r, d, ao, cap', i', dl, rfl, h1, h2, h3, h4, h5, h6, h7, h8⟩
set_option maxHeartbeats 4000000 in
set_option maxRecDepth 20000 in
theorem genFrame_any (w0 w : World) (b : Nat) (a : Option Addr) (n cap i : Nat) (l : List Nat) (h : srcI w0 b a n cap l i w) (hi : i ≤ 1000000000) :
    Calls Tryd.prog 59 #[.pointer (some ⟨b, 0, none⟩)] w fun o w' => gfOut w0 w b a n cap l i 100 8 0 15 o w' := by
  have st := grI.start h
  have HI : Hid (i ≤ 1000000000) := hi
  clear h hi
  go_enter Tryd.func59, Tryd.ntmps59
  go_wp2_with fail
  refine (n_int w0 _ b a n cap i l 2 2 rfl st.src (by have := HI.out; omega) (by decide) (by decide)).mono ?_
  rintro o w1 ⟨r1, rfl, h1, hs1, hg1⟩
  have st1 := st.step hs1 hg1
  clear st hs1 hg1
  generalize w.heap.size = R at *
  have ST : Hid (grI w0 w b a n cap l (i + 1) R w1) := st1
  clear st1
  go_wp2_with fail
  refine (n_int w0 _ b a n cap (i + 1) l 4 4 rfl ST.out.src (by have := HI.out; omega) (by decide) (by decide)).mono ?_
  rintro o w2 ⟨r2, rfl, h2, hs1, hg1⟩
  have st1 := ST.out.step hs1 hg1
  clear ST hs1 hg1
  have ST : Hid (grI w0 w b a n cap l (i + 2) R w2) := st1
  clear st1
  go_wp2_with fail
  refine (n_int w0 _ b a n cap (i + 2) l 9 9 rfl ST.out.src (by have := HI.out; omega) (by decide) (by decide)).mono ?_
  rintro o w3 ⟨r3, rfl, h3, hs1, hg1⟩
  have st1 := ST.out.step hs1 hg1
  clear ST hs1 hg1
  generalize ((r1 : Int) == 1) = fe at *
  generalize ((r2 : Int) == 0) = fr at *
  have st := gfI.start st1 fe fr (r3 : Int)
  clear st1 h1 h2
  go_wp2_with fail
  refine (n_int w0 _ b a n cap (i + 3) l 6 6 rfl st.src (by have := HI.out; omega) (by decide) (by decide)).mono ?_
  rintro o w4 ⟨r4, rfl, h4, hs1, hg1⟩
  have st1 := st.step hs1 hg1
  clear st hs1 hg1
  generalize w3.heap.size + 1 = F at *
  generalize w3.heap.size = g0 at *
  by_cases hr4 : r4 = 0
  · have hr4' : ((r4 : Int) == 0) = true := by simp; omega
    clear hr4
    have ST : Hid (gfI w0 w b a n cap l (i + 3 + 1) F R fe 0 fr (r3 : Int) (.slice (some ⟨g0, 0, none⟩) 0 0) [] w4) := st1
    clear st1
    go_wp2_with fail
    refine (n_int w0 _ b a n cap (i + 4) l 16 16 rfl ST.out.src (by have := HI.out; omega) (by decide) (by decide)).mono ?_
    rintro o w5 ⟨r5, rfl, h5, hs1, hg1⟩
    have st := ST.out.step hs1 hg1
    clear ST hs1 hg1 hr4'
    obtain ⟨d0, d1, d2, d3, d4, z0, z1, z2, z3, z4⟩ := st.cells
    have st1 := st.setAny 3 (.int .i64 (r5 : Int)) fe 0 fr (r5 : Int) rfl
    obtain ⟨d0', d1', d2', d3', d4', z0', z1', z2', z3', z4'⟩ := st1.cells
    have ST : Hid (gfI w0 w b a n cap l (i + 4 + 1) F R fe 0 fr (r5 : Int) (.slice (some ⟨g0, 0, none⟩) 0 0) [] (w5.setCell ⟨F, 3, none⟩ (.int .i64 (r5 : Int)))) := st1
    clear st st1
    go_wp2_with fail
    refine (genId_any w0 _ b a n cap (i + 4 + 1) l fe ST.out.src (by have := HI.out; omega)).mono ?_
    rintro o w6 ⟨x, i6, rfl, hx, hi6, hs1, hg1⟩
    have st := ST.out.step hs1 hg1
    clear ST hs1 hg1
    have HX : Hid (((fe = false → x < 2048) ∧ x < 536870912) ∧ i6 ≤ i + 10 ∧ r5 ≤ 15) := ⟨hx, by omega, by omega⟩
    clear hx hi6 h5
    clear d0 d1 d2 d3 d4 z0 z1 z2 z3 z4 d0' d1' d2' d3' d4' z0' z1' z2' z3' z4'
    obtain ⟨d0, d1, d2, d3, d4, z0, z1, z2, z3, z4⟩ := st.cells
    have st1 := st.setAny 1 (.int .u32 (x : Int)) fe x fr (r5 : Int) rfl
    obtain ⟨d0', d1', d2', d3', d4', z0', z1', z2', z3', z4'⟩ := st1.cells
    have ST : Hid (gfI w0 w b a n cap l i6 F R fe x fr (r5 : Int) (.slice (some ⟨g0, 0, none⟩) 0 0) [] (w6.setCell ⟨F, 1, none⟩ (.int .u32 (x : Int)))) := st1
    clear st st1
    go_wp2_with fail
    refine (specDataLen_any _ fe x fr (r5 : Int) (some ⟨g0, 0, none⟩) 0 0).mono ?_
    rintro o w7 ⟨rfl, rfl⟩
    obtain ⟨m, hm, hm8⟩ := dl_range fr r5
    rw [hm]
    have st := ST.out.alloc (frC fe x fr (r5 : Int) (some ⟨g0, 0, none⟩) 0 0 29)
    have HM : Hid (Go.Proofs.YtjmlalojfghkiaaDoor.J.dl fr (r5 : Int) = (m : Int)) := hm
    clear ST hm
    clear d0 d1 d2 d3 d4 z0 z1 z2 z3 z4 d0' d1' d2' d3' d4' z0' z1' z2' z3' z4'
    generalize (w6.setCell ⟨F, 1, none⟩ (.int .u32 (x : Int))).alloc (frC fe x fr (r5 : Int) (some ⟨g0, 0, none⟩) 0 0 29) = W7 at *
    go_wp2_with fail
    go_loopw [5] (fun ii wr => ∃ (j i' cp : Nat) (ao : Option Addr) (dl : List Nat), j ≤ m ∧ ii = .int .i64 (j : Int) ∧ dl.length = j ∧ (∀ x ∈ dl, x < 256) ∧ i' ≤ i + 10 + 2 * j ∧ gfI w0 w b a n cap l i' F R fe x fr (r5 : Int) (.slice ao dl.length cp) dl wr) (fun ii _ => m - (intOf ii).toNat)
    case atStart => exact ⟨0, i6, 0, _, [], Nat.zero_le _, rfl, rfl, by simp, by have := HX.out; omega, st⟩
    case round =>
      clear st
      obtain ⟨j, i', cp, ao, dl, hj, rfl, hdl, hdb, hi', st⟩ := hrel
      by_cases hlt : j < m
      · have hlt' : (j : Int) < (m : Int) := by omega
        have STd : Hid (gfI w0 w b a n cap l i' F R fe x fr (r5 : Int) (.slice ao dl.length cp) dl wr.drew) := st.drew
        have HJ : Hid (j < m ∧ dl.length = j ∧ (∀ x ∈ dl, x < 256) ∧ i' ≤ i + 10 + 2 * j ∧ dl.length ≤ 100000000) := ⟨hlt, hdl, hdb, hi', by omega⟩
        have HI2 : Hid (i' ≤ 100000000000) := by have := HI.out; unfold Hid; omega
        obtain ⟨d0, d1, d2, d3, d4, z0, z1, z2, z3, z4⟩ := st.cells
        clear st hlt hj hdl hdb hi'
        go_wp2_with fail
        go_region_law (first | (go_simp; go_at_call 81; refine (genByte_any w0 _ b a n cap i' l STd.out.src HI2.out).mono ?_; rintro o w8 ⟨x8, i8, rfl, hx8, hi8, hs8, hg8⟩; have st8 := STd.out.step hs8 hg8; obtain ⟨y0, y1, y2, y3, y4, f0, f1, f2, f3, f4⟩ := st8.cells; have y4a := gf_cellA st8 (.cells #[.int .u8 (x8 : Int)] 5)) | (refine step_app2 w8 _ rfl (by rfl) _ _ (by rfl) w.heap.size _ dl x8 rfl (by rfl) st8.own (by rfl) HJ.out.2.2.2.2 st8.gb.size ?_; intro ao9 cp9 w9 ho9 hg9 hk9; obtain ⟨k4, k5⟩ := gf_keep st8 hg9))
        all_goals
          have st9 := st8.app ho9 hg9 hk9
          go_wp2
          go_roundw
          case rel => exact ⟨j + 1, i8, cp9, ao9, dl ++ [x8], HJ.out.1, by go_num, by rw [List.length_append, HJ.out.2.1]; rfl, small_snoc HJ.out.2.2.1 hx8, by have := HJ.out.2.2.2.1; omega, by rw [List.length_append]; exact st9⟩
          case measure => have := HJ.out.1; simp [intOf]; omega
      · have hlt' : ¬ (j : Int) < (m : Int) := by omega
        have hjm : j ≤ 8 := by omega
        have HJ : Hid (dl.length = j ∧ (∀ x ∈ dl, x < 256) ∧ i' ≤ i + 10 + 2 * j) := ⟨hdl, hdb, hi'⟩
        obtain ⟨d0, d1, d2, d3, d4, z0, z1, z2, z3, z4⟩ := st.cells
        obtain ⟨e0, e1, e2, e3, e4, y0, y1, y2, y3, y4⟩ := st.cellsR
        have ST : Hid (gfI w0 w b a n cap l i' F R fe x fr (r5 : Int) (.slice ao dl.length cp) dl wr) := st
        have hjm2 : j = m := by omega
        clear st hlt hj hdl hdb hi'
        go_wp2
        have he := gf_end ST.out (.bool fe) (.int .u32 (x : Int)) (.bool fr) (.int .i64 (r5 : Int)) (.slice ao dl.length cp)
        refine bodyPost_ret (v := frV fe x fr (r5 : Int) ao dl.length cp) (by simp [results, Tryd.results59, go_sem, e0, e1, e2, e3, e4]) rfl (gfOut.mk fe x fr (r5 : Int) ao cp i' dl ⟨HX.out.1.1, HX.out.1.2, by have := HM.out; rw [HM.out, HJ.out.1, hjm2]⟩ ⟨by omega, by have := HX.out.2.2; omega⟩ (by rw [HJ.out.1]; exact hjm) HJ.out.2.1 (by have := HJ.out.2.2; omega) he.1 he.2.1 he.2.2)
  · have hr4' : ((r4 : Int) == 0) = false := by simp; omega
    clear hr4
    have ST : Hid (gfI w0 w b a n cap l (i + 3 + 1) F R fe 0 fr (r3 : Int) (.slice (some ⟨g0, 0, none⟩) 0 0) [] w4) := st1
    obtain ⟨d0, d1, d2, d3, d4, z0, z1, z2, z3, z4⟩ := st1.cells
    clear st1
    go_wp2_with fail
    clear hr4'
    refine (genId_any w0 _ b a n cap (i + 3 + 1) l fe ST.out.src (by have := HI.out; omega)).mono ?_
    rintro o w6 ⟨x, i6, rfl, hx, hi6, hs1, hg1⟩
    have st := ST.out.step hs1 hg1
    clear ST hs1 hg1
    have HX : Hid (((fe = false → x < 2048) ∧ x < 536870912) ∧ i6 ≤ i + 10 ∧ r3 ≤ 15) := ⟨hx, by omega, by omega⟩
    clear hx hi6 h3
    clear d0 d1 d2 d3 d4 z0 z1 z2 z3 z4
    obtain ⟨d0, d1, d2, d3, d4, z0, z1, z2, z3, z4⟩ := st.cells
    have st1 := st.setAny 1 (.int .u32 (x : Int)) fe x fr (r3 : Int) rfl
    obtain ⟨d0', d1', d2', d3', d4', z0', z1', z2', z3', z4'⟩ := st1.cells
    have ST : Hid (gfI w0 w b a n cap l i6 F R fe x fr (r3 : Int) (.slice (some ⟨g0, 0, none⟩) 0 0) [] (w6.setCell ⟨F, 1, none⟩ (.int .u32 (x : Int)))) := st1
    clear st st1
    go_wp2_with fail
    refine (specDataLen_any _ fe x fr (r3 : Int) (some ⟨g0, 0, none⟩) 0 0).mono ?_
    rintro o w7 ⟨rfl, rfl⟩
    obtain ⟨m, hm, hm8⟩ := dl_range fr r3
    rw [hm]
    have st := ST.out.alloc (frC fe x fr (r3 : Int) (some ⟨g0, 0, none⟩) 0 0 29)
    have HM : Hid (Go.Proofs.YtjmlalojfghkiaaDoor.J.dl fr (r3 : Int) = (m : Int)) := hm
    clear ST hm
    clear d0 d1 d2 d3 d4 z0 z1 z2 z3 z4 d0' d1' d2' d3' d4' z0' z1' z2' z3' z4'
    generalize (w6.setCell ⟨F, 1, none⟩ (.int .u32 (x : Int))).alloc (frC fe x fr (r3 : Int) (some ⟨g0, 0, none⟩) 0 0 29) = W7 at *
    go_wp2_with fail
    go_loopw [5] (fun ii wr => ∃ (j i' cp : Nat) (ao : Option Addr) (dl : List Nat), j ≤ m ∧ ii = .int .i64 (j : Int) ∧ dl.length = j ∧ (∀ x ∈ dl, x < 256) ∧ i' ≤ i + 10 + 2 * j ∧ gfI w0 w b a n cap l i' F R fe x fr (r3 : Int) (.slice ao dl.length cp) dl wr) (fun ii _ => m - (intOf ii).toNat)
    case atStart => exact ⟨0, i6, 0, _, [], Nat.zero_le _, rfl, rfl, by simp, by have := HX.out; omega, st⟩
    case round =>
      clear st
      obtain ⟨j, i', cp, ao, dl, hj, rfl, hdl, hdb, hi', st⟩ := hrel
      by_cases hlt : j < m
      · have hlt' : (j : Int) < (m : Int) := by omega
        have STd : Hid (gfI w0 w b a n cap l i' F R fe x fr (r3 : Int) (.slice ao dl.length cp) dl wr.drew) := st.drew
        have HJ : Hid (j < m ∧ dl.length = j ∧ (∀ x ∈ dl, x < 256) ∧ i' ≤ i + 10 + 2 * j ∧ dl.length ≤ 100000000) := ⟨hlt, hdl, hdb, hi', by omega⟩
        have HI2 : Hid (i' ≤ 100000000000) := by have := HI.out; unfold Hid; omega
        obtain ⟨d0, d1, d2, d3, d4, z0, z1, z2, z3, z4⟩ := st.cells
        clear st hlt hj hdl hdb hi'
        go_wp2_with fail
        go_region_law (first | (go_simp; go_at_call 81; refine (genByte_any w0 _ b a n cap i' l STd.out.src HI2.out).mono ?_; rintro o w8 ⟨x8, i8, rfl, hx8, hi8, hs8, hg8⟩; have st8 := STd.out.step hs8 hg8; obtain ⟨y0, y1, y2, y3, y4, f0, f1, f2, f3, f4⟩ := st8.cells; have y4a := gf_cellA st8 (.cells #[.int .u8 (x8 : Int)] 5)) | (refine step_app2 w8 _ rfl (by rfl) _ _ (by rfl) w.heap.size _ dl x8 rfl (by rfl) st8.own (by rfl) HJ.out.2.2.2.2 st8.gb.size ?_; intro ao9 cp9 w9 ho9 hg9 hk9; obtain ⟨k4, k5⟩ := gf_keep st8 hg9))
        all_goals
          have st9 := st8.app ho9 hg9 hk9
          go_wp2
          go_roundw
          case rel => exact ⟨j + 1, i8, cp9, ao9, dl ++ [x8], HJ.out.1, by go_num, by rw [List.length_append, HJ.out.2.1]; rfl, small_snoc HJ.out.2.2.1 hx8, by have := HJ.out.2.2.2.1; omega, by rw [List.length_append]; exact st9⟩
          case measure => have := HJ.out.1; simp [intOf]; omega
      · have hlt' : ¬ (j : Int) < (m : Int) := by omega
        have hjm : j ≤ 8 := by omega
        have HJ : Hid (dl.length = j ∧ (∀ x ∈ dl, x < 256) ∧ i' ≤ i + 10 + 2 * j) := ⟨hdl, hdb, hi'⟩
        obtain ⟨d0, d1, d2, d3, d4, z0, z1, z2, z3, z4⟩ := st.cells
        obtain ⟨e0, e1, e2, e3, e4, y0, y1, y2, y3, y4⟩ := st.cellsR
        have ST : Hid (gfI w0 w b a n cap l i' F R fe x fr (r3 : Int) (.slice ao dl.length cp) dl wr) := st
        have hjm2 : j = m := by omega
        clear st hlt hj hdl hdb hi'
        go_wp2
        have he := gf_end ST.out (.bool fe) (.int .u32 (x : Int)) (.bool fr) (.int .i64 (r3 : Int)) (.slice ao dl.length cp)
        refine bodyPost_ret (v := frV fe x fr (r3 : Int) ao dl.length cp) (by simp [results, Tryd.results59, go_sem, e0, e1, e2, e3, e4]) rfl (gfOut.mk fe x fr (r3 : Int) ao cp i' dl ⟨HX.out.1.1, HX.out.1.2, by have := HM.out; rw [HM.out, HJ.out.1, hjm2]⟩ ⟨by omega, by have := HX.out.2.2; omega⟩ (by rw [HJ.out.1]; exact hjm) HJ.out.2.1 (by have := HJ.out.2.2; omega) he.1 he.2.1 he.2.2)
end Go.Proofs.YtjmlalojfghkiaaDoor.J
