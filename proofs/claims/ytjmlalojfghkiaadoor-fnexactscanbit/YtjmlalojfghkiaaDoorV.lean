import Derived.Test.YtjmlalojfghkiaaDoorT
import Derived.Test.YtjmlalojfghkiaaDoorL
namespace Go.Proofs.YtjmlalojfghkiaaDoor
open Go.RowKit
set_option linter.unusedVariables false
/-- the scan at block P has become T; nothing else is turned but what is new -/
structure sP (w w' : World) (P : Nat) (T : Sc) (a : Option Addr) (n cap : Nat) : Prop where
  q : blk w' P (scL T a n cap) 31
  o : ∀ q, q ≠ P → q < w.heap.size → w'.heap[q]? = w.heap[q]?
  b : Below P w w'
theorem sP.put {w w' : World} {P : Nat} {T T' : Sc} {a : Option Addr} {n cap : Nat} (h : sP w w' P T a n cap) (o : Nat) (v : Value) (he : (scL T a n cap).set o v = scL T' a n cap) : sP w (w'.setCell ⟨P, o, none⟩ v) P T' a n cap :=
  ⟨he ▸ h.q.set o v, fun q h1 h2 => (heap_setCell_other _ _ _ _ (by exact h1)).trans (h.o q h1 h2), h.b.setCell (by exact Nat.le_refl _) _⟩
theorem sP.start {w : World} {P : Nat} {T : Sc} {a : Option Addr} {n cap : Nat} (h : blk w P (scL T a n cap) 31) : sP w w P T a n cap := ⟨h, fun _ _ _ => rfl, Below.refl _ _⟩
set_option maxHeartbeats 4000000 in
set_option maxRecDepth 20000 in
theorem hear_any (w : World) (P : Nat) (S : Sc) (a : Option Addr) (n cap : Nat) (h : blk w P (scL S a n cap) 31) (hr : S.rn ≤ 5) (hr0 : 0 ≤ S.rn) (b : Nat) (hb : b < 2) :
    Calls Tryd.prog 53 #[.pointer (some ⟨P, 0, none⟩), .int .i64 (b : Int)] w fun o w' => (∃ v, o = .returned v) ∧ sP w w' P (hearT S b) a n cap := by
  obtain ⟨f, lf, rn, lv, cr, ac, e, i, r, d, l⟩ := S
  simp only [] at hr hr0
  have HB : Hid (blk w P (scL ⟨f, lf, rn, lv, cr, ac, e, i, r, d, l⟩ a n cap) 31) := h
  have z0 := h.cell 0 _ rfl
  have z2 := h.cell 2 _ rfl
  have z3 := h.cell 3 _ rfl
  have f2 := h.free 2
  have f3 := h.free 3
  clear h
  by_cases h11 : 11 ≤ f
  · go_enter Tryd.func53, Tryd.ntmps53
    go_wp2_with fail
    go_end0
    refine ⟨⟨_, rfl⟩, ?_⟩
    rw [hearT_hi (by omega)]
    exact ((sP.start HB.out).put (T' := ⟨f, lf, 0, lv, cr, ac, e, i, r, d, l⟩) 2 (.int .i64 0) rfl).put 3 (.int .i64 0) rfl
  · by_cases hr1 : 0 < rn
    · by_cases hr2 : (b : Int) = lv
      · have hq : ((b : Int) == lv) = true := by simpa using hr2
        have HR2 : Hid ((b : Int) = lv) := hr2
        clear hr2
        go_enter Tryd.func53, Tryd.ntmps53
        go_wp2_with fail
        go_end0
        refine ⟨⟨_, rfl⟩, ?_⟩
        rw [hearT_on (by omega) hr1 HR2.out, HR2.out]
        exact (sP.start HB.out).put (T' := ⟨f, lf, rn + 1, lv, cr, ac, e, i, r, d, l⟩) 2 (.int .i64 (rn + 1)) rfl
      · have hq : ((b : Int) == lv) = false := by simpa using hr2
        have HR2 : Hid (¬ (b : Int) = lv) := hr2
        clear hr2
        go_enter Tryd.func53, Tryd.ntmps53
        go_wp2_with fail
        go_end0
        refine ⟨⟨_, rfl⟩, ?_⟩
        rw [hearT_new (by omega) (fun h => HR2.out h.2)]
        exact ((sP.start HB.out).put (T' := ⟨f, lf, 1, lv, cr, ac, e, i, r, d, l⟩) 2 (.int .i64 1) rfl).put 3 (.int .i64 (b : Int)) rfl
    · go_enter Tryd.func53, Tryd.ntmps53
      go_wp2_with fail
      go_end0
      refine ⟨⟨_, rfl⟩, ?_⟩
      rw [hearT_new (by omega) (fun h => by have := h.1; omega)]
      exact ((sP.start HB.out).put (T' := ⟨f, lf, 1, lv, cr, ac, e, i, r, d, l⟩) 2 (.int .i64 1) rfl).put 3 (.int .i64 (b : Int)) rfl
end Go.Proofs.YtjmlalojfghkiaaDoor
