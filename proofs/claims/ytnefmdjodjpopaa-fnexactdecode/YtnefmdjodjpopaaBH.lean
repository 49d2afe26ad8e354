import Derived.Test.YtnefmdjodjpopaaBG
import Derived.Deep.AppendLies
import Derived.Deep.RegionLaw
namespace Go.Proofs.Ytnefmdjodjpopaa
open Go.RowKit

theorem sd_res {w w1 : World} (h : Below (w.alloc (.cells #[.bool false, .int .u32 0, .bool false, .int .i64 0, .slice none 0 0] 33)).heap.size (w.alloc (.cells #[.bool false, .int .u32 0, .bool false, .int .i64 0, .slice none 0 0] 33)) w1) :
    w1.heap[w.heap.size]? = some (.cells #[.bool false, .int .u32 0, .bool false, .int .i64 0, .slice none 0 0] 33 (0, 0)) ∧ Below w.heap.size w w1 := by
  refine ⟨(h.block _ (by simp)).trans (heap_alloc_new w _), ?_⟩
  exact ((Below.refl w.heap.size w).alloc (Nat.le_refl _) _).trans (h.mono (by simp))
theorem l1val40 (w : World) {l : List Nat} (h : ∀ x ∈ l, x < 256) (hl : l.length ≤ 40) : Calls Try.prog 82 #[.string (strN l)] w fun e w' => e = .returned (.int .i64 (valL l : Nat)) ∧ w = w' := by
  have hz : (strN l).size ≤ 40 := by rw [strN_size]; omega
  have := l1val_any (strN l) w hz
  rw [lt_strN _ h] at this
  exact this
theorem isBytes.block {w w' : World} {g off n cap : Nat} {l : List Nat} (h : isBytes w (some ⟨g, off, none⟩) n cap l) (hb : w'.heap[g]? = w.heap[g]?) : isBytes w' (some ⟨g, off, none⟩) n cap l := by
  refine ⟨h.len, h.cap, h.small, fun hl => ?_⟩
  obtain ⟨g', off', e, hc⟩ := h.cells hl
  cases e
  refine ⟨g, off, rfl, fun j hj => ?_⟩
  have := hc j hj
  simp only [World.cell?] at this ⊢
  rw [hb]
  exact this
/-- the model's Decode at work: the frame so far in block F, the plain letters in block g, the result's block R -/
structure sdI (w0 : World) (B R F g off cap : Nat) (p : List Nat) (e : Bool) (i : Nat) (r : Bool) (d : Nat) (v : Value) (l : List Nat) (W : World) : Prop where
  fr : W.heap[F]? = some (.cells #[.bool e, .int .u32 (i : Int), .bool r, .int .i64 (d : Int), v] 33 (0, 0))
  own : ownsB W B v l
  row : isBytes W (some ⟨g, off, none⟩) p.length cap p
  res : W.heap[R]? = some (.cells #[.bool false, .int .u32 0, .bool false, .int .i64 0, .slice none 0 0] 33 (0, 0))
  bel : Below B w0 W
  ne : v.ownBlock ≠ some g ∧ v.ownBlock ≠ some F ∧ v.ownBlock ≠ some R
  dis : g ≠ F ∧ F ≠ R ∧ g ≠ R ∧ B ≤ F ∧ B ≤ R ∧ B ≤ W.heap.size ∧ g < W.heap.size
theorem sdI.cells {w0 : World} {B R F g off cap : Nat} {p : List Nat} {e : Bool} {i : Nat} {r : Bool} {d : Nat} {v : Value} {l : List Nat} {W : World} (h : sdI w0 B R F g off cap p e i r d v l W) :
    W.cell? ⟨F, 0, none⟩ = some (.bool e) ∧ W.cell? ⟨F, 1, none⟩ = some (.int .u32 (i : Int)) ∧ W.cell? ⟨F, 2, none⟩ = some (.bool r) ∧ W.cell? ⟨F, 3, none⟩ = some (.int .i64 (d : Int)) ∧ W.cell? ⟨F, 4, none⟩ = some v ∧
    W.frozen? ⟨F, 0, none⟩ = false ∧ W.frozen? ⟨F, 1, none⟩ = false ∧ W.frozen? ⟨F, 2, none⟩ = false ∧ W.frozen? ⟨F, 3, none⟩ = false ∧ W.frozen? ⟨F, 4, none⟩ = false := by
  have hr := h.fr
  refine ⟨?_, ?_, ?_, ?_, ?_, ?_, ?_, ?_, ?_, ?_⟩ <;> simp [World.cell?, World.frozen?, hr]
theorem sdI.cellsR {w0 : World} {B R F g off cap : Nat} {p : List Nat} {e : Bool} {i : Nat} {r : Bool} {d : Nat} {v : Value} {l : List Nat} {W : World} (h : sdI w0 B R F g off cap p e i r d v l W) :
    W.cell? ⟨R, 0, none⟩ = some (.bool false) ∧ W.cell? ⟨R, 1, none⟩ = some (.int .u32 0) ∧ W.cell? ⟨R, 2, none⟩ = some (.bool false) ∧ W.cell? ⟨R, 3, none⟩ = some (.int .i64 0) ∧ W.cell? ⟨R, 4, none⟩ = some (.slice none 0 0) ∧
    W.frozen? ⟨R, 0, none⟩ = false ∧ W.frozen? ⟨R, 1, none⟩ = false ∧ W.frozen? ⟨R, 2, none⟩ = false ∧ W.frozen? ⟨R, 3, none⟩ = false ∧ W.frozen? ⟨R, 4, none⟩ = false := by
  have hr := h.res
  refine ⟨?_, ?_, ?_, ?_, ?_, ?_, ?_, ?_, ?_, ?_⟩ <;> simp [World.cell?, World.frozen?, hr]
theorem sd_own {W : World} {B F : Nat} {v : Value} {l : List Nat} (j : Nat) (x : Value) (h : ownsB W B v l) (hne : v.ownBlock ≠ some F) : ownsB (W.setCell ⟨F, j, none⟩ x) B v l := by
  refine h.otherBlock (fun i hi => heap_setCell_other W ⟨F, j, none⟩ i x (fun e => ?_))
  have e' : i = F := e
  exact hne (e' ▸ hi)
theorem sdI.set {w0 : World} {B R F g off cap : Nat} {p : List Nat} {e : Bool} {i : Nat} {r : Bool} {d : Nat} {v : Value} {l : List Nat} {W : World} (h : sdI w0 B R F g off cap p e i r d v l W) (i' : Nat) :
    sdI w0 B R F g off cap p e i' r d v l (W.setCell ⟨F, 1, none⟩ (.int .u32 (i' : Int))) := by
  obtain ⟨d1, d2, d3, d4, d5, d6, d7⟩ := h.dis
  refine ⟨?_, sd_own _ _ h.own h.ne.2.1, h.row.block (heap_setCell_other W ⟨F, 1, none⟩ g _ (fun e => d1 e)), (heap_setCell_other W ⟨F, 1, none⟩ R _ (fun e => d2 e.symm)).trans h.res, h.bel.setCell (by exact d4) _, h.ne, d1, d2, d3, d4, d5, by simpa using d6, by simpa using d7⟩
  rw [heap_setCell_same W F 1 _ _ _ h.fr]; simp
theorem sdI.setr {w0 : World} {B R F g off cap : Nat} {p : List Nat} {e : Bool} {i : Nat} {r : Bool} {d : Nat} {v : Value} {l : List Nat} {W : World} (h : sdI w0 B R F g off cap p e i r d v l W) (r' : Bool) :
    sdI w0 B R F g off cap p e i r' d v l (W.setCell ⟨F, 2, none⟩ (.bool r')) := by
  obtain ⟨d1, d2, d3, d4, d5, d6, d7⟩ := h.dis
  refine ⟨?_, sd_own _ _ h.own h.ne.2.1, h.row.block (heap_setCell_other W ⟨F, 2, none⟩ g _ (fun e => d1 e)), (heap_setCell_other W ⟨F, 2, none⟩ R _ (fun e => d2 e.symm)).trans h.res, h.bel.setCell (by exact d4) _, h.ne, d1, d2, d3, d4, d5, by simpa using d6, by simpa using d7⟩
  rw [heap_setCell_same W F 2 _ _ _ h.fr]; simp
theorem sdI.app {w0 : World} {B R F g off cap : Nat} {p : List Nat} {e : Bool} {i : Nat} {r : Bool} {d : Nat} {v v' : Value} {l l' : List Nat} {W W' : World} (h : sdI w0 B R F g off cap p e i r d v l W)
    (ho : ownsB W' B v' l') (hb : Below B w0 W') (hk : ∀ g, g < W.heap.size → v.ownBlock ≠ some g → W'.heap[g]? = W.heap[g]? ∧ v'.ownBlock ≠ some g) (hz : W.heap.size ≤ W'.heap.size) :
    sdI w0 B R F g off cap p e i r d v' l' (W'.setCell ⟨F, 4, none⟩ v') := by
  obtain ⟨d1, d2, d3, d4, d5, d6, d7⟩ := h.dis
  have kF := hk F (lt_of_block h.fr) h.ne.2.1
  have kR := hk R (lt_of_block h.res) h.ne.2.2
  have kg := hk g d7 h.ne.1
  refine ⟨?_, sd_own _ _ ho kF.2, (h.row.block kg.1).block (heap_setCell_other W' ⟨F, 4, none⟩ g _ (fun e => d1 e)), (heap_setCell_other W' ⟨F, 4, none⟩ R _ (fun e => d2 e.symm)).trans (kR.1.trans h.res), hb.setCell (by exact d4) _, ⟨kg.2, kF.2, kR.2⟩, d1, d2, d3, d4, d5, by simpa using (by omega : B ≤ W'.heap.size), by simpa using (by omega : g < W'.heap.size)⟩
  rw [heap_setCell_same W' F 4 _ _ _ (kF.1.trans h.fr)]; simp
/-- one letter put behind a row of its own, at a step of a region that draws its order -/
theorem step_app {ci : Int} {ops : Array Oper} {o : Oper} {a : Act} {K : Act → World → Prop} {Q : Exit → Act → World → Prop} {E : Prop} (w0 wr W : World) (hW : W = wr.alloc (.cells #[.int .u8 ci] 5)) (hgd : o.guard = none) (s x : Operand)
    (ho : o.op = .call { callee := .builtin .append, args := #[s, x], argTypes := #[28, 28] })
    (B : Nat) (v : Value) (l : List Nat) (c : Nat) (hci : ci = (c : Int)) (hs : a.eval s = v) (hown : ownsB wr B v l)
    (hx : a.eval x = .slice (some ⟨wr.heap.size, 0, none⟩) 1 1) (hlen : l.length ≤ 100000000) (hB : B ≤ wr.heap.size) (hbel : Below B w0 wr)
    (h : ∀ v' w', ownsB w' B v' (l ++ [c]) → Below B w0 w' → (∀ g, g < wr.heap.size → v.ownBlock ≠ some g → w'.heap[g]? = wr.heap[g]? ∧ v'.ownBlock ≠ some g) → wr.heap.size ≤ w'.heap.size → K (a.put o.dst v') w') :
    if Region.wanted o (yielded ops a.tmps) = true then Oper.wp Try.prog o a W K Q else E := by
  subst hci hW
  obtain ⟨i0, hi, hz0, hz1, hz2⟩ := info_parts Try.info5
  refine step_append_lies _ hgd s x 28 ho B 5 i0 (.int .u8 0) 1 1 Try.underlying28 hi hz0 hz1 hz2 rfl (by decide) v l.length (bv l) hs (World.ownsRow.alloc hown _) ⟨wr.heap.size, 0, none⟩ 1 1 [.int .u8 (c : Int)] hx rfl ?_ ?_ (by decide) ?_ ?_ ?_ (wr.heap.size + 1) (by simp) ?_
  · intro j u hj
    match j, hj with
    | 0, hj => simp at hj; subst hj; simp [Addr.add]
  · intro u hu; simp at hu; subst hu; rfl
  · unfold maxLen; omega
  · omega
  · simp; omega
  · intro gg cap w' ho' hg hat hlt
    have hr : ∀ k, v.ownBlock = some k → B ≤ k := fun k hk => (World.ownsRow.lt hown k hk).1
    have e1 : bv (l ++ [c]) = bv l ++ [.int .u8 (c : Int)] := by simp [bv]
    refine h (.slice (some ⟨gg, 0, none⟩) (l.length + 1) cap) w' ?_ ((hbel.alloc hB _).grown hg (by simp; omega) hr) (fun g hgl hne => ⟨?_, ?_⟩) (Nat.le_trans (by simp) hg.size)
    · unfold ownsB
      rw [e1, List.length_append]
      exact ho'
    · exact (hg.block g (by simp; omega) (fun e => hne e.symm)).trans (Below.heap_alloc wr _ g hgl)
    · intro e
      simp [Value.ownBlock] at e
      rcases hat with hat | hat
      · exact hne (e ▸ hat)
      · omega
theorem wrap8 (k : Nat) (h : k ≤ 110) : IntKind.i64.wrap ((k : Int) + 8) = (k : Int) + 8 := by
  simp [IntKind.wrap, IntKind.bits, IntKind.signed]
  omega
theorem sd_keep {w0 : World} {B R F g off cap : Nat} {p : List Nat} {e : Bool} {i : Nat} {r : Bool} {d : Nat} {v v' : Value} {l : List Nat} {W W' : World} (h : sdI w0 B R F g off cap p e i r d v l W)
    (hk : ∀ g, g < W.drew.heap.size → v.ownBlock ≠ some g → W'.heap[g]? = W.drew.heap[g]? ∧ v'.ownBlock ≠ some g) : W'.cell? ⟨F, 4, none⟩ = some v ∧ W'.frozen? ⟨F, 4, none⟩ = false := by
  have h1 := (hk F (lt_of_block h.fr) h.ne.2.1).1.trans h.fr
  constructor <;> simp [World.cell?, World.frozen?, h1]
theorem ownsB.shape {w : World} {B : Nat} {v : Value} {l : List Nat} (h : ownsB w B v l) : ∃ ao cap, v = .slice ao l.length cap := by
  obtain ⟨_, ⟨rfl, h0⟩ | ⟨g, cap, cur, rfl, _⟩⟩ := h
  · exact ⟨none, 0, by rw [h0]⟩
  · exact ⟨_, cap, rfl⟩
/-- the first j eights behind place H, as numbers -/
def datL (p : List Nat) (H j : Nat) : List Nat := (List.range j).map fun t => valL ((p.drop (H + 8 * t)).take 8)
theorem datL_succ (p : List Nat) (H j : Nat) : datL p H (j + 1) = datL p H j ++ [valL ((p.drop (H + 8 * j)).take 8)] := by
  unfold datL; rw [List.range_succ, List.map_append]; rfl
/-- laid out -/
theorem sdI.start {w w1 : World} {g cap : Nat} {p : List Nat} (d : Nat) (hr : w1.heap[w.heap.size]? = some (.cells #[.bool false, .int .u32 0, .bool false, .int .i64 0, .slice none 0 0] 33 (0, 0))) (hb : Below w.heap.size w w1) (hp : isBytes w1 (some ⟨g, 0, none⟩) p.length cap p) (hg : w.heap.size < g) (hg2 : g < w1.heap.size) (e : Bool) :
    sdI w w.heap.size w.heap.size (w1.heap.size + 1) g 0 cap p e 0 false d (.slice (some ⟨w1.heap.size, 0, none⟩) 0 0) [] ((w1.alloc (.cells #[] 5)).alloc (.cells #[.bool e, .int .u32 0, .bool false, .int .i64 (d : Int), .slice (some ⟨w1.heap.size, 0, none⟩) 0 0] 33)) := by
  have hz := hb.size
  have hB : Below w1.heap.size w1 ((w1.alloc (.cells #[] 5)).alloc (.cells #[.bool e, .int .u32 0, .bool false, .int .i64 (d : Int), .slice (some ⟨w1.heap.size, 0, none⟩) 0 0] 33)) := ((Below.refl _ _).alloc (Nat.le_refl _) _).alloc (by simp) _
  have e1 : (w1.alloc (.cells #[] 5)).heap.size = w1.heap.size + 1 := by simp
  refine ⟨?_, World.ownsRow.alloc (own_nil w1 w.heap.size hz) _, hp.below hB, (hB.block _ (by omega)).trans hr, hb.trans (hB.mono hz), ⟨?_, ?_, ?_⟩, by omega, by omega, by omega, by omega, Nat.le_refl _, by simp; omega, by simp; omega⟩
  · have := heap_alloc_new (w1.alloc (.cells #[] 5)) (.cells #[.bool e, .int .u32 0, .bool false, .int .i64 (d : Int), .slice (some ⟨w1.heap.size, 0, none⟩) 0 0] 33)
    rw [e1] at this
    exact this
  · simp [Value.ownBlock]; omega
  · simp [Value.ownBlock]
  · simp [Value.ownBlock]; omega

end Go.Proofs.Ytnefmdjodjpopaa
