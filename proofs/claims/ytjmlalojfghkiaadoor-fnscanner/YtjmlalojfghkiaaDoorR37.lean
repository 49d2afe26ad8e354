import Derived.Test.YtjmlalojfghkiaaDoorR27
import Derived.Test.YtjmlalojfghkiaaDoorR19
import Derived.Test.YtjmlalojfghkiaaDoorR34
import Derived.Deep.DeepCutAuto
namespace Go.Proofs.YtjmlalojfghkiaaDoor.J
open Go.RowKit
set_option linter.unusedVariables false
/-- the draw of a heard text: the source, and the frame at block F -/
structure hI (w0 w : World) (b : Nat) (a : Option Addr) (n cap : Nat) (l : List Nat) (i F : Nat) (e : Bool) (id : Nat) (r : Bool) (d : Int) (ao : Option Addr) (cp : Nat) (q : List Nat) (W : World) : Prop where
  src : srcI w0 b a n cap l i W
  gb : w.grownBy W (some b)
  fr : blk W F [.bool e, .int .u32 (id : Int), .bool r, .int .i64 d, .slice ao q.length cp] 29
  own : ownsB W w.heap.size (.slice ao q.length cp) q
  z : w.heap.size ≤ F
  bz : b < w.heap.size
theorem hI.step {w0 w : World} {b : Nat} {a : Option Addr} {n cap : Nat} {l : List Nat} {i i' F : Nat} {e : Bool} {id : Nat} {r : Bool} {d : Int} {ao : Option Addr} {cp : Nat} {q : List Nat} {W W' : World} (h : hI w0 w b a n cap l i F e id r d ao cp q W) (hs : srcI w0 b a n cap l i' W') (hg : W.grownBy W' (some b)) : hI w0 w b a n cap l i' F e id r d ao cp q W' :=
  ⟨hs, gb_trans h.gb hg, h.fr.kept (hg.block _ h.fr.lt (by intro e; cases e; have := h.z; have := h.bz; omega)), h.own.gb hg h.bz, h.z, h.bz⟩
theorem hI.below {w0 w : World} {b : Nat} {a : Option Addr} {n cap : Nat} {l : List Nat} {i F : Nat} {e : Bool} {id : Nat} {r : Bool} {d : Int} {ao : Option Addr} {cp : Nat} {q : List Nat} {W W' : World} (h : hI w0 w b a n cap l i F e id r d ao cp q W) (hb : Below W.heap.size W W') : hI w0 w b a n cap l i F e id r d ao cp q W' :=
  ⟨h.src.below hb h.src.lt, gb_below h.gb (hb.mono h.gb.size), h.fr.below hb, h.own.otherBlock (fun g hg => hb.block g (World.ownsRow.lt h.own g hg).2), h.z, h.bz⟩
theorem own_b {w : World} {B : Nat} {a : Option Addr} {k : Nat} {l : List Nat} (h : ownsB w B (.slice a l.length k) l) (hl : ∀ x ∈ l, x < 256) : isBytes w a l.length k l := by
  by_cases hv : (Value.slice a l.length k) = .slice none 0 0
  · have e := hv
    simp only [Value.slice.injEq] at e
    obtain ⟨h1, h2, h3⟩ := e
    subst h1
    rw [h2, h3]
    have : l = [] := List.length_eq_zero_iff.1 h2
    subst this
    exact ⟨rfl, Nat.le_refl _, by simp, fun h => absurd rfl h⟩
  · obtain ⟨g, k', e1, _, _, h4⟩ := YtjmlalojfghkiaaDoor.ownsB_bytes (w := w) (B := B) (l := l) h hv hl
    have h5 := h4.now
    simp only [Value.slice.injEq] at e1
    obtain ⟨rfl, _, rfl⟩ := e1
    exact ⟨h5.len, h5.cap, h5.small, h5.cells⟩
/-- the letters of an image -/
theorem img_L (e : Bool) (i : Nat) (r : Bool) (d : Int) (q : List Nat) (h1 : (e = false → i < 2048) ∧ i < 536870912 ∧ (q.length : Int) = dl r d) (hd : 0 ≤ d ∧ d ≤ 15) (hq : q.length ≤ 8) : validB e i r d q.length = true ∧ ∃ t : List Nat, encZ e i r d q.length q = strN t ∧ (∀ x ∈ t, M.isL x) ∧ 44 ≤ t.length ∧ t.length ≤ 300 := by
  have hv : validB e i r d q.length = true := by
    unfold validB
    simp only [Bool.and_eq_true, decide_eq_true_iff, beq_iff_eq]
    refine ⟨⟨⟨?_, hd.1⟩, hd.2⟩, h1.2.2⟩
    cases e
    · simpa using h1.1 rfl
    · simpa using h1.2.1
  refine ⟨hv, M.stuffL (plainL e i r d.toNat q) ++ List.replicate 10 49, ?_, ?_, ?_, ?_⟩
  · unfold encZ
    rw [if_pos hv]
  · intro x hx
    rcases List.mem_append.1 hx with hx | hx
    · exact M.stuff_all _ (plainL_isL e i r d.toNat q) x hx
    · rw [List.mem_replicate] at hx
      exact Or.inr hx.2
  · have h2 := M.stuff_ge (plainL e i r d.toNat q)
    have h3 := plainL_length e i r d.toNat q
    rw [List.length_append, List.length_replicate]
    split at h3 <;> omega
  · have h2 := M.stuff_len (plainL e i r d.toNat q)
    have h3 := plainL_length e i r d.toNat q
    rw [List.length_append, List.length_replicate]
    split at h3 <;> omega
end Go.Proofs.YtjmlalojfghkiaaDoor.J
