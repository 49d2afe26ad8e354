import Derived.Test.YtnefmdjodjpopaaAE
namespace Go.Proofs.Ytnefmdjodjpopaa
open Go.RowKit

theorem gb_trans {w w1 w2 : World} {b : Option Nat} (h : w.grownBy w1 b) (k : w1.grownBy w2 b) : w.grownBy w2 b :=
  ⟨k.os.trans h.os, k.tape.trans h.tape, k.output.trans h.output, Nat.le_trans h.size k.size, fun i hi hne => (k.block i (Nat.lt_of_lt_of_le hi h.size) hne).trans (h.block i hi hne)⟩
theorem gb_below {w w1 w2 : World} {b : Option Nat} (h : w.grownBy w1 b) (k : Below w.heap.size w1 w2) : w.grownBy w2 b :=
  ⟨k.os.trans h.os, k.tape.trans h.tape, k.output.trans h.output, Nat.le_trans h.size k.size, fun i hi hne => (k.block i hi).trans (h.block i hi hne)⟩
theorem ownsB.gb {w w1 : World} {B : Nat} {v : Value} {l : List Nat} {b : Nat} (h : ownsB w B v l) (hg : w.grownBy w1 (some b)) (hb : b < B) : ownsB w1 B v l :=
  h.otherBlock (fun g hgv => hg.block g ((World.ownsRow.lt h g hgv).2) (fun e => by cases e; have := (World.ownsRow.lt h _ hgv).1; omega))
theorem ownsB.shape {w : World} {B : Nat} {v : Value} {l : List Nat} (h : ownsB w B v l) : ∃ ao cap, v = .slice ao l.length cap := by
  obtain ⟨_, ⟨rfl, h1⟩ | ⟨g, cap, cur, rfl, _⟩⟩ := h
  · exact ⟨none, 0, by rw [h1]⟩
  · exact ⟨_, cap, rfl⟩
theorem srcAt.below {w w1 : World} {B b : Nat} {a : Option Addr} {n cap i s : Nat} (h : srcAt w b a n cap i s) (hb : Below B w w1) (hB : b < B) : srcAt w1 b a n cap i s := (hb.block b hB).trans h
theorem srcAt.lt {w : World} {b : Nat} {a : Option Addr} {n cap i s : Nat} (h : srcAt w b a n cap i s) : b < w.heap.size := lt_of_block h
/-- the length that a slice's value bears -/
def lenOf : Value → Nat | .slice _ n _ => n | _ => 0

/-- the source of choices, and what it reads -/
structure srcI (w0 : World) (b : Nat) (a : Option Addr) (n cap : Nat) (l : List Nat) (i : Nat) (w : World) : Prop where
  at_ : ∃ s, srcAt w b a n cap i s
  bel : Below w0.heap.size w0 w
  by_ : isBytes w0 a n cap l
  hb : w0.heap.size ≤ b
theorem srcI.lt {w0 w : World} {b : Nat} {a : Option Addr} {n cap i : Nat} {l : List Nat} (h : srcI w0 b a n cap l i w) : b < w.heap.size := by
  obtain ⟨s, hs⟩ := h.at_; exact hs.lt
theorem srcI.step {w0 w w1 : World} {b : Nat} {a : Option Addr} {n cap i i' : Nat} {l : List Nat} (h : srcI w0 b a n cap l i w) (hs : ∃ s', srcAt w1 b a n cap i' s') (hg : w.grownBy w1 (some b)) : srcI w0 b a n cap l i' w1 :=
  ⟨hs, h.bel.grown hg h.bel.size (fun k e => by cases e; exact h.hb), h.by_, h.hb⟩
theorem srcI.below {w0 w w1 : World} {B b : Nat} {a : Option Addr} {n cap i : Nat} {l : List Nat} (h : srcI w0 b a n cap l i w) (hb : Below B w w1) (hB : b < B) : srcI w0 b a n cap l i w1 := by
  obtain ⟨s, hs⟩ := h.at_
  exact ⟨⟨s, hs.below hb hB⟩, h.bel.trans (hb.mono (by have := h.hb; omega)), h.by_, h.hb⟩

theorem n_any (w0 w : World) (b : Nat) (a : Option Addr) (n cap i : Nat) (l : List Nat) (k : Nat) (h : srcI w0 b a n cap l i w) (hi : i ≤ 1000000000000) (hk : k ≤ 1000000000) :
    Calls Try.prog 75 #[.pointer (some ⟨b, 0, none⟩), .int .i64 (k : Int)] w fun o w' => ∃ r : Nat, o = .returned (.int .i64 (r : Int)) ∧ (k ≤ 1 → r = 0) ∧ (1 < k → r < k) ∧ srcI w0 b a n cap l (i + 1) w' ∧ w.grownBy w' (some b) := by
  obtain ⟨s, hs⟩ := h.at_
  refine (srcN_any w b a n cap i s l k hs (h.by_.below h.bel) hi hk).mono ?_
  rintro o w' ⟨r, s', rfl, h1, h2, h3, h4⟩
  exact ⟨r, rfl, h1, h2, h.step ⟨s', h3⟩ h4, h4⟩
theorem n_2 (w0 w : World) (b : Nat) (a : Option Addr) (n cap i : Nat) (l : List Nat) (h : srcI w0 b a n cap l i w) (hi : i ≤ 1000000000000) :
    Calls Try.prog 75 #[.pointer (some ⟨b, 0, none⟩), .int .i64 2] w fun o w' => ∃ r : Nat, o = .returned (.int .i64 (r : Int)) ∧ r < 2 ∧ srcI w0 b a n cap l (i + 1) w' ∧ w.grownBy w' (some b) := by
  refine (n_any w0 w b a n cap i l 2 h hi (by omega)).mono ?_
  rintro o w' ⟨r, rfl, _, h2, h3, h4⟩
  exact ⟨r, rfl, h2 (by omega), h3, h4⟩
theorem n_3 (w0 w : World) (b : Nat) (a : Option Addr) (n cap i : Nat) (l : List Nat) (h : srcI w0 b a n cap l i w) (hi : i ≤ 1000000000000) :
    Calls Try.prog 75 #[.pointer (some ⟨b, 0, none⟩), .int .i64 3] w fun o w' => ∃ r : Nat, o = .returned (.int .i64 (r : Int)) ∧ r < 3 ∧ srcI w0 b a n cap l (i + 1) w' ∧ w.grownBy w' (some b) := by
  refine (n_any w0 w b a n cap i l 3 h hi (by omega)).mono ?_
  rintro o w' ⟨r, rfl, _, h2, h3, h4⟩
  exact ⟨r, rfl, h2 (by omega), h3, h4⟩
theorem n_7 (w0 w : World) (b : Nat) (a : Option Addr) (n cap i : Nat) (l : List Nat) (h : srcI w0 b a n cap l i w) (hi : i ≤ 1000000000000) :
    Calls Try.prog 75 #[.pointer (some ⟨b, 0, none⟩), .int .i64 7] w fun o w' => ∃ r : Nat, o = .returned (.int .i64 (r : Int)) ∧ r < 7 ∧ srcI w0 b a n cap l (i + 1) w' ∧ w.grownBy w' (some b) := by
  refine (n_any w0 w b a n cap i l 7 h hi (by omega)).mono ?_
  rintro o w' ⟨r, rfl, _, h2, h3, h4⟩
  exact ⟨r, rfl, h2 (by omega), h3, h4⟩
end Go.Proofs.Ytnefmdjodjpopaa
