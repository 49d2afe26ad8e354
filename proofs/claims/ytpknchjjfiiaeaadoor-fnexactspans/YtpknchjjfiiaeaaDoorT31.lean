import Derived.Test.YtpknchjjfiiaeaaDoorT30
import Derived.Test.YtpknchjjfiiaeaaDoorT00
import Derived.Test.YtpknchjjfiiaeaaDoorT07
namespace Go.Proofs.YtpknchjjfiiaeaaDoor
open Go.RowKit
set_option linter.unusedVariables false
theorem sz25F : (Tryd.prog.info? 25).map (·.size) = some 5 := by kernel_rfl
theorem kd_of {w : World} {a : Option Addr} {n cap : Nat} {l : List Nat} (h : J.isBytes w a n cap l) : Kd.isBytes w a n cap l := ⟨h.len, h.cap, h.small, h.cells⟩
theorem j_of {w : World} {a : Option Addr} {n cap : Nat} {l : List Nat} (h : Kd.isBytes w a n cap l) : J.isBytes w a n cap l := ⟨h.len, h.cap, h.small, h.cells⟩
/-- what stands while the law goes on -/
structure liI (w : World) (FA FX : List Value) (b0 gx bx B1 b1 : Nat) (N : Int) (m : Nat) (a0 : Option Addr) (c0 : Nat) (a1 : Option Addr) (c1 : Nat) (l0 l1 : List Nat) (W : World) : Prop where
  p : Kd.blk W w.heap.size FA 25
  q0 : Kd.blk W b0 [.int .i64 N, .slice a0 m c0] 29
  x : Kd.blk W bx FX 31
  q1 : Kd.blk W b1 [.int .i64 N, .slice a1 m c1] 29
  o0 : ownsW W (w.heap.size + 1) (.slice a0 m c0) l0
  o1 : ownsW W B1 (.slice a1 m c1) l1
  lt0 : ∀ g, (Value.slice a0 m c0).ownBlock = some g → g < b0
  bel : Below w.heap.size w W
  z : w.heap.size < b0 ∧ b0 < gx ∧ gx < bx ∧ bx < B1 ∧ B1 ≤ b1
theorem liI.below {w : World} {FA FX : List Value} {b0 gx bx B1 b1 : Nat} {N : Int} {m : Nat} {a0 : Option Addr} {c0 : Nat} {a1 : Option Addr} {c1 : Nat} {l0 l1 : List Nat} {W W' : World} (h : liI w FA FX b0 gx bx B1 b1 N m a0 c0 a1 c1 l0 l1 W) (hb : Below W.heap.size W W') : liI w FA FX b0 gx bx B1 b1 N m a0 c0 a1 c1 l0 l1 W' :=
  ⟨h.p.below hb, h.q0.below hb, h.x.below hb, h.q1.below hb, h.o0.below hb, h.o1.below hb, h.lt0, h.bel.trans (hb.mono h.bel.size), h.z⟩
theorem liI.w0 {w : World} {FA FX : List Value} {b0 gx bx B1 b1 : Nat} {N : Int} {m : Nat} {a0 : Option Addr} {c0 : Nat} {a1 : Option Addr} {c1 : Nat} {l0 l1 : List Nat} {W : World} (h : liI w FA FX b0 gx bx B1 b1 N m a0 c0 a1 c1 l0 l1 W) (hm : m = l0.length) (hs : ∀ x ∈ l0, x < 18446744073709551616) : isWords W a0 m c0 l0 := h.o0.words hm hs (h.o0.cap hm)
theorem liI.w1 {w : World} {FA FX : List Value} {b0 gx bx B1 b1 : Nat} {N : Int} {m : Nat} {a0 : Option Addr} {c0 : Nat} {a1 : Option Addr} {c1 : Nat} {l0 l1 : List Nat} {W : World} (h : liI w FA FX b0 gx bx B1 b1 N m a0 c0 a1 c1 l0 l1 W) (hm : m = l1.length) (hs : ∀ x ∈ l1, x < 18446744073709551616) : isWords W a1 m c1 l1 := h.o1.words hm hs (h.o1.cap hm)
/-- behind the mark of the frame -/
theorem liI.xmark {w : World} {FA FX : List Value} {b0 gx bx B1 b1 : Nat} {N : Int} {m : Nat} {a0 : Option Addr} {c0 : Nat} {a1 : Option Addr} {c1 : Nat} {l0 l1 : List Nat} {W W' : World} {n c : Nat} (h : liI w FA FX b0 gx bx B1 b1 N m a0 c0 a1 c1 l0 l1 W) (hk : Kd.mkd W W' gx n c) : liI w FA FX b0 gx bx B1 b1 N m a0 c0 a1 c1 l0 l1 W' := by
  have hz := h.z
  have hb1 := h.q1.lt
  refine ⟨h.p.kept (hk.oth _ (by omega) (by omega)), h.q0.kept (hk.oth _ (by omega) (by omega)), h.x.kept (hk.oth _ (by omega) (by omega)), h.q1.kept (hk.oth _ (by omega) (by omega)), h.o0.otherBlock fun g hg => hk.oth g ?_ (World.ownsRow.lt h.o0 g hg).2, h.o1.otherBlock fun g hg => hk.oth g ?_ (World.ownsRow.lt h.o1 g hg).2, h.lt0, h.bel.trans (hk.bel.mono (by omega)), hz⟩
  · have := h.lt0 g hg; omega
  · have := (World.ownsRow.lt h.o1 g hg).1; omega
/-- behind the mark of the answer -/
theorem liI.gmark {w : World} {FA FX : List Value} {b0 gx bx B1 b1 : Nat} {N : Int} {m : Nat} {a0 : Option Addr} {c0 : Nat} {a1 : Option Addr} {c1 : Nat} {l0 l1 : List Nat} {l2 : List Nat} {W W' : World} (h : liI w FA FX b0 gx bx B1 b1 N m a0 c0 a1 c1 l0 l1 W) (ho : ownsW W' B1 (.slice a1 m c1) l2) (hb : Below B1 W W') (hk : ∀ b, b < W.heap.size → (∀ a, a1 = some a → a.block ≠ b) → W'.heap[b]? = W.heap[b]?) : liI w FA FX b0 gx bx B1 b1 N m a0 c0 a1 c1 l0 l2 W' := by
  have hz := h.z
  refine ⟨h.p.kept (hb.block _ (by omega)), h.q0.kept (hb.block _ (by omega)), h.x.kept (hb.block _ (by omega)), h.q1.kept (hk b1 h.q1.lt ?_), h.o0.otherBlock fun g hg => hb.block g (by have := h.lt0 g hg; omega), ho, h.lt0, h.bel.trans (hb.mono (by omega)), hz⟩
  intro a ea e
  subst ea
  obtain ⟨_, ⟨h2, _⟩ | ⟨g, cap, cur, e2, _, hh, _⟩⟩ := h.o1
  · cases h2
  · cases e2
    have e' : g = b1 := e
    subst e'
    have hq := h.q1
    unfold Kd.blk at hq
    rw [hq] at hh
    cases hh
end Go.Proofs.YtpknchjjfiiaeaaDoor
