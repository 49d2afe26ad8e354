import Derived.Test.YtnefmdjodjpopaaCA
namespace Go.Proofs.Ytnefmdjodjpopaa
open Go.RowKit

/-- a frame's cells in block b -/
def frB (W : World) (b : Nat) (e : Bool) (i : Nat) (r : Bool) (d : Int) (v : Value) : Prop := W.heap[b]? = some (.cells #[.bool e, .int .u32 (i : Int), .bool r, .int .i64 d, v] 33 (0, 0))
theorem frB.cells {W : World} {b : Nat} {e : Bool} {i : Nat} {r : Bool} {d : Int} {v : Value} (h : frB W b e i r d v) :
    W.cell? ⟨b, 0, none⟩ = some (.bool e) ∧ W.cell? ⟨b, 1, none⟩ = some (.int .u32 (i : Int)) ∧ W.cell? ⟨b, 2, none⟩ = some (.bool r) ∧ W.cell? ⟨b, 3, none⟩ = some (.int .i64 d) ∧ W.cell? ⟨b, 4, none⟩ = some v ∧
    W.frozen? ⟨b, 0, none⟩ = false ∧ W.frozen? ⟨b, 1, none⟩ = false ∧ W.frozen? ⟨b, 2, none⟩ = false ∧ W.frozen? ⟨b, 3, none⟩ = false ∧ W.frozen? ⟨b, 4, none⟩ = false := by
  unfold frB at h
  refine ⟨?_, ?_, ?_, ?_, ?_, ?_, ?_, ?_, ?_, ?_⟩ <;> simp [World.cell?, World.frozen?, h]
theorem frB.lt {W : World} {b : Nat} {e : Bool} {i : Nat} {r : Bool} {d : Int} {v : Value} (h : frB W b e i r d v) : b < W.heap.size := lt_of_block h
/-- a frame stored over block b -/
def setF (W : World) (b : Nat) (e : Bool) (i : Nat) (r : Bool) (d : Int) (v : Value) : World :=
  ((((W.setCell ⟨b, 0, none⟩ (.bool e)).setCell ⟨b, 1, none⟩ (.int .u32 (i : Int))).setCell ⟨b, 2, none⟩ (.bool r)).setCell ⟨b, 3, none⟩ (.int .i64 d)).setCell ⟨b, 4, none⟩ v
theorem setF_same {W : World} {b : Nat} {e : Bool} {i : Nat} {r : Bool} {d : Int} {v : Value} (h : frB W b e i r d v) (e' : Bool) (i' : Nat) (r' : Bool) (d' : Int) (v' : Value) : frB (setF W b e' i' r' d' v') b e' i' r' d' v' := by
  unfold frB at h
  have h0 := heap_setCell_same _ b 0 _ _ (Value.bool e') h
  have h1 := heap_setCell_same _ b 1 _ _ (Value.int .u32 (i' : Int)) h0
  have h2 := heap_setCell_same _ b 2 _ _ (Value.bool r') h1
  have h3 := heap_setCell_same _ b 3 _ _ (Value.int .i64 d') h2
  have h4 := heap_setCell_same _ b 4 _ _ v' h3
  unfold frB setF
  rw [h4]
  simp
theorem setF_other (W : World) (b : Nat) (e : Bool) (i : Nat) (r : Bool) (d : Int) (v : Value) (c : Nat) (h : c ≠ b) : (setF W b e i r d v).heap[c]? = W.heap[c]? := by
  have n : ∀ j, (⟨b, j, none⟩ : Addr).block ≠ c := fun j e => h e.symm
  unfold setF
  rw [heap_setCell_other _ ⟨b, 4, none⟩ c _ (by first | exact h | exact n 4), heap_setCell_other _ ⟨b, 3, none⟩ c _ (by first | exact h | exact n 3), heap_setCell_other _ ⟨b, 2, none⟩ c _ (by first | exact h | exact n 2), heap_setCell_other _ ⟨b, 1, none⟩ c _ (by first | exact h | exact n 1), heap_setCell_other _ ⟨b, 0, none⟩ c _ (by first | exact h | exact n 0)]
theorem setF_below {B : Nat} {w0 W : World} {b : Nat} (h : Below B w0 W) (hb : B ≤ b) (e : Bool) (i : Nat) (r : Bool) (d : Int) (v : Value) : Below B w0 (setF W b e i r d v) :=
  ((((h.setCell (p := ⟨b, 0, none⟩) hb _).setCell (p := ⟨b, 1, none⟩) hb _).setCell (p := ⟨b, 2, none⟩) hb _).setCell (p := ⟨b, 3, none⟩) hb _).setCell (p := ⟨b, 4, none⟩) hb _
/-- a row of bytes doesn't lie in a frame's block -/
theorem bytes_ne {W : World} {b : Nat} {e : Bool} {i : Nat} {r : Bool} {d : Int} {vo : Option Addr} {vn vc : Nat} {a : Option Addr} {n cap : Nat} {l : List Nat} (h : frB W b e i r d (.slice vo vn vc)) (hy : isBytes W a n cap l) (hl : l ≠ []) : ∀ x, a = some x → x.block ≠ b := by
  intro x hx hb
  obtain ⟨g, off, e', hc⟩ := hy.cells hl
  rw [hx] at e'
  cases e'
  have h0 := hc 0 (List.length_pos_iff.2 hl)
  unfold frB at h
  have hb' : g = b := hb
  subst hb'
  simp only [World.cell?, h] at h0
  match off, h0 with
  | 0, h0 => simp at h0
  | 1, h0 => simp at h0
  | 2, h0 => simp at h0
  | 3, h0 => simp at h0
  | 4, h0 => simp at h0
  | o + 5, h0 => simp at h0
theorem setF_bytes {W : World} {b : Nat} {e : Bool} {i : Nat} {r : Bool} {d : Int} {vo : Option Addr} {vn vc : Nat} {a : Option Addr} {n cap : Nat} {l : List Nat} (h : frB W b e i r d (.slice vo vn vc)) (hy : isBytes W a n cap l) (e' : Bool) (i' : Nat) (r' : Bool) (d' : Int) (v' : Value) : isBytes (setF W b e' i' r' d' v') a n cap l := by
  refine ⟨hy.len, hy.cap, hy.small, fun hl => ?_⟩
  obtain ⟨g, off, e0, hc⟩ := hy.cells hl
  have hne := bytes_ne h hy hl _ e0
  refine ⟨g, off, e0, fun j hj => ?_⟩
  have := hc j hj
  simp only [World.cell?] at this ⊢
  rw [setF_other W b e' i' r' d' v' g hne]
  exact this
/-- two frames in blocks F and G, the results' blocks R1 and R2 -/
structure wpI (w0 : World) (F G R1 R2 : Nat) (e1 : Bool) (i1 : Nat) (r1 : Bool) (d1 : Int) (ao1 : Option Addr) (n1 cp1 : Nat) (l1 : List Nat) (e2 : Bool) (i2 : Nat) (r2 : Bool) (d2 : Int) (ao2 : Option Addr) (n2 cp2 : Nat) (l2 : List Nat) (W : World) : Prop where
  f : frB W F e1 i1 r1 d1 (.slice ao1 n1 cp1)
  y1 : isBytes W ao1 n1 cp1 l1
  g : frB W G e2 i2 r2 d2 (.slice ao2 n2 cp2)
  y2 : isBytes W ao2 n2 cp2 l2
  z1 : frB W R1 false 0 false 0 (.slice none 0 0)
  z2 : frB W R2 false 0 false 0 (.slice none 0 0)
  bel : Below w0.heap.size w0 W
  dis : F ≠ G ∧ F ≠ R1 ∧ F ≠ R2 ∧ G ≠ R1 ∧ G ≠ R2 ∧ R1 ≠ R2 ∧ w0.heap.size ≤ F ∧ w0.heap.size ≤ G ∧ w0.heap.size ≤ R1 ∧ w0.heap.size ≤ R2
theorem wpI.below {w0 : World} {F G R1 R2 : Nat} {e1 : Bool} {i1 : Nat} {r1 : Bool} {d1 : Int} {ao1 : Option Addr} {n1 cp1 : Nat} {l1 : List Nat} {e2 : Bool} {i2 : Nat} {r2 : Bool} {d2 : Int} {ao2 : Option Addr} {n2 cp2 : Nat} {l2 : List Nat} {W W' : World} (h : wpI w0 F G R1 R2 e1 i1 r1 d1 ao1 n1 cp1 l1 e2 i2 r2 d2 ao2 n2 cp2 l2 W) (hb : Below W.heap.size W W') : wpI w0 F G R1 R2 e1 i1 r1 d1 ao1 n1 cp1 l1 e2 i2 r2 d2 ao2 n2 cp2 l2 W' :=
  ⟨(hb.block _ h.f.lt).trans h.f, h.y1.below hb, (hb.block _ h.g.lt).trans h.g, h.y2.below hb, (hb.block _ h.z1.lt).trans h.z1, (hb.block _ h.z2.lt).trans h.z2, h.bel.trans (hb.mono (by have := h.f.lt; have := h.dis; omega)), h.dis⟩
theorem nilBytes (W : World) : isBytes W none 0 0 [] := ⟨rfl, Nat.le_refl _, by simp, fun h => absurd rfl h⟩
theorem wpI.setf {w0 : World} {F G R1 R2 : Nat} {e1 : Bool} {i1 : Nat} {r1 : Bool} {d1 : Int} {ao1 : Option Addr} {n1 cp1 : Nat} {l1 : List Nat} {e2 : Bool} {i2 : Nat} {r2 : Bool} {d2 : Int} {ao2 : Option Addr} {n2 cp2 : Nat} {l2 : List Nat} {W : World} (h : wpI w0 F G R1 R2 e1 i1 r1 d1 ao1 n1 cp1 l1 e2 i2 r2 d2 ao2 n2 cp2 l2 W) (e : Bool) (i : Nat) (r : Bool) : wpI w0 F G R1 R2 e i r 0 none 0 0 [] e2 i2 r2 d2 ao2 n2 cp2 l2 (setF W F e i r 0 (.slice none 0 0)) := by
  obtain ⟨q1, q2, q3, q4, q5, q6, q7, q8, q9, q10⟩ := h.dis
  exact ⟨setF_same h.f _ _ _ _ _, nilBytes _, (setF_other W F e i r 0 _ G (Ne.symm q1)).trans h.g, setF_bytes h.f h.y2 _ _ _ _ _, (setF_other W F e i r 0 _ R1 (Ne.symm q2)).trans h.z1, (setF_other W F e i r 0 _ R2 (Ne.symm q3)).trans h.z2, setF_below h.bel q7 _ _ _ _ _, h.dis⟩
theorem wpI.setg {w0 : World} {F G R1 R2 : Nat} {e1 : Bool} {i1 : Nat} {r1 : Bool} {d1 : Int} {ao1 : Option Addr} {n1 cp1 : Nat} {l1 : List Nat} {e2 : Bool} {i2 : Nat} {r2 : Bool} {d2 : Int} {ao2 : Option Addr} {n2 cp2 : Nat} {l2 : List Nat} {W : World} (h : wpI w0 F G R1 R2 e1 i1 r1 d1 ao1 n1 cp1 l1 e2 i2 r2 d2 ao2 n2 cp2 l2 W) (e : Bool) (i : Nat) (r : Bool) : wpI w0 F G R1 R2 e1 i1 r1 d1 ao1 n1 cp1 l1 e i r 0 none 0 0 [] (setF W G e i r 0 (.slice none 0 0)) := by
  obtain ⟨q1, q2, q3, q4, q5, q6, q7, q8, q9, q10⟩ := h.dis
  exact ⟨(setF_other W G e i r 0 _ F q1).trans h.f, setF_bytes h.g h.y1 _ _ _ _ _, setF_same h.g _ _ _ _ _, nilBytes _, (setF_other W G e i r 0 _ R1 (Ne.symm q4)).trans h.z1, (setF_other W G e i r 0 _ R2 (Ne.symm q5)).trans h.z2, setF_below h.bel q8 _ _ _ _ _, h.dis⟩
/-- the two frames handed back -/
theorem wpI.fin {w0 : World} {F G R1 R2 : Nat} {e1 : Bool} {i1 : Nat} {r1 : Bool} {d1 : Int} {ao1 : Option Addr} {n1 cp1 : Nat} {l1 : List Nat} {e2 : Bool} {i2 : Nat} {r2 : Bool} {d2 : Int} {ao2 : Option Addr} {n2 cp2 : Nat} {l2 : List Nat} {W : World} (h : wpI w0 F G R1 R2 e1 i1 r1 d1 ao1 n1 cp1 l1 e2 i2 r2 d2 ao2 n2 cp2 l2 W) :
    isBytes (setF (setF W R1 e1 i1 r1 d1 (.slice ao1 n1 cp1)) R2 e2 i2 r2 d2 (.slice ao2 n2 cp2)) ao1 n1 cp1 l1 ∧ isBytes (setF (setF W R1 e1 i1 r1 d1 (.slice ao1 n1 cp1)) R2 e2 i2 r2 d2 (.slice ao2 n2 cp2)) ao2 n2 cp2 l2 ∧ Below w0.heap.size w0 (setF (setF W R1 e1 i1 r1 d1 (.slice ao1 n1 cp1)) R2 e2 i2 r2 d2 (.slice ao2 n2 cp2)) := by
  obtain ⟨q1, q2, q3, q4, q5, q6, q7, q8, q9, q10⟩ := h.dis
  have h2 : frB (setF W R1 e1 i1 r1 d1 (.slice ao1 n1 cp1)) R2 false 0 false 0 (.slice none 0 0) := (setF_other W R1 _ _ _ _ _ R2 (Ne.symm q6)).trans h.z2
  exact ⟨setF_bytes h2 (setF_bytes h.z1 h.y1 _ _ _ _ _) _ _ _ _ _, setF_bytes h2 (setF_bytes h.z1 h.y2 _ _ _ _ _) _ _ _ _ _, setF_below (setF_below h.bel q9 _ _ _ _ _) q10 _ _ _ _ _⟩
end Go.Proofs.Ytnefmdjodjpopaa
