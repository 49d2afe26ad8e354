import Derived.Test.YtaamahohdnbpiaaGreatG19
namespace Go.Proofs.YtaamahohdnbpiaaGreat
open Go.Shelf Go.RowKit
set_option linter.unusedVariables false
def dx5 (b0 : World) (U : Nat) (a : Option Addr) (n c : Nat) (ff : List R5) (hs : Nat → Hd) (k : Nat) (W : World) : Prop := (a = none ∧ n = 0 ∧ c = 0 ∧ ff = []) ∨ ∃ g, a = some ⟨g, 0, none⟩ ∧ n ≤ c ∧ dr5 b0 U g n ff hs k W
def dx8 (b0 : World) (U : Nat) (a : Option Addr) (n c : Nat) (ff : List R8) (hs : Nat → Hd) (k : Nat) (W : World) : Prop := (a = none ∧ n = 0 ∧ c = 0 ∧ ff = []) ∨ ∃ g, a = some ⟨g, 0, none⟩ ∧ n ≤ c ∧ dr8 b0 U g n ff hs k W
theorem dx5.below {b0 W W' : World} {U : Nat} {a : Option Addr} {n c : Nat} {ff : List R5} {hs : Nat → Hd} {k : Nat} (h : dx5 b0 U a n c ff hs k W) (hb : Below W.heap.size W W') : dx5 b0 U a n c ff hs k W' := by
  rcases h with h | ⟨g, e, h1, h2⟩
  · exact Or.inl h
  · exact Or.inr ⟨g, e, h1, h2.below hb⟩
theorem dx8.below {b0 W W' : World} {U : Nat} {a : Option Addr} {n c : Nat} {ff : List R8} {hs : Nat → Hd} {k : Nat} (h : dx8 b0 U a n c ff hs k W) (hb : Below W.heap.size W W') : dx8 b0 U a n c ff hs k W' := by
  rcases h with h | ⟨g, e, h1, h2⟩
  · exact Or.inl h
  · exact Or.inr ⟨g, e, h1, h2.below hb⟩
theorem dx5.hi {b0 W : World} {U : Nat} {a : Option Addr} {n c : Nat} {ff : List R5} {hs : Nat → Hd} {k : Nat} (h : dx5 b0 U a n c ff hs k W) : ∀ g, a = some ⟨g, 0, none⟩ → g < W.heap.size := by
  rcases h with h | ⟨g, e, h1, h2⟩
  · intro g hg; rw [h.1] at hg; cases hg
  · intro g' hg; rw [e] at hg; cases hg; exact h2.hi
theorem dx8.hi {b0 W : World} {U : Nat} {a : Option Addr} {n c : Nat} {ff : List R8} {hs : Nat → Hd} {k : Nat} (h : dx8 b0 U a n c ff hs k W) : ∀ g, a = some ⟨g, 0, none⟩ → g < W.heap.size := by
  rcases h with h | ⟨g, e, h1, h2⟩
  · intro g hg; rw [h.1] at hg; cases hg
  · intro g' hg; rw [e] at hg; cases hg; exact h2.hi
theorem look5_dr (b0 w : World) (P o gs room first n : Nat) (L : List R5) (hn : n = L.length) (y0 : w.cell? ⟨P, o, none⟩ = some (.slice (some ⟨gs, 0, none⟩) room room)) (y1 : w.cell? ⟨P, o + 1, none⟩ = some (.int .i64 (first : Int))) (y2 : w.cell? ⟨P, o + 2, none⟩ = some (.int .i64 (n : Int))) (hr : ring5 b0 w gs room first L) (hfi : first < room) (h1 : 1 ≤ room ∧ room ≤ 1000) (hL : n ≤ room) (hb0 : Below b0.heap.size b0 w) (hsm : ∀ j (h : j < L.length), L[j].l.length ≤ 1048576) :
    Calls Tryz.prog 161 #[.pointer (some ⟨P, o, none⟩), .int .i64 (n : Int)] w fun e w' => ∃ a c hs, e = .returned (.slice a n c) ∧ (∀ g, a = some ⟨g, 0, none⟩ → w.heap.size ≤ g) ∧ dx5 b0 0 a n c L hs 0 w' ∧ Below w.heap.size w w' := by
  subst hn
  refine (look5_any b0 w P o gs room first L y0 y1 y2 hr hfi h1 hL).mono ?_
  rintro e w' ⟨v, bs, rfl, hm, hby, ho, hbw⟩
  rcases ownsRow_split ho with ⟨e1, e2⟩ | ⟨g', cap', rfl, hb, hlt, hcp, hrf, hrg⟩
  · refine ⟨none, 0, fun _ => (none, 0, 0), by rw [e1, e2], fun g hg => (by cases hg), Or.inl ⟨rfl, e2, rfl, List.length_eq_zero_iff.1 e2⟩, hbw⟩
  · exact ⟨some ⟨g', 0, none⟩, cap', _, rfl, fun g hg => by cases hg; exact hb, Or.inr ⟨g', rfl, hcp, dr5.start (B := 0) bs hm hby rfl hrf hrg (Nat.le_trans hb0.size hb) hlt (hb0.trans (hbw.mono hb0.size)) hsm⟩, hbw⟩
theorem look8_dr (b0 w : World) (P o gs room first n : Nat) (L : List R8) (hn : n = L.length) (y0 : w.cell? ⟨P, o, none⟩ = some (.slice (some ⟨gs, 0, none⟩) room room)) (y1 : w.cell? ⟨P, o + 1, none⟩ = some (.int .i64 (first : Int))) (y2 : w.cell? ⟨P, o + 2, none⟩ = some (.int .i64 (n : Int))) (hr : ring8 b0 w gs room first L) (hfi : first < room) (h1 : 1 ≤ room ∧ room ≤ 1000) (hL : n ≤ room) (hb0 : Below b0.heap.size b0 w) (hsm : ∀ j (h : j < L.length), L[j].l.length ≤ 1048576) :
    Calls Tryz.prog 162 #[.pointer (some ⟨P, o, none⟩), .int .i64 (n : Int)] w fun e w' => ∃ a c hs, e = .returned (.slice a n c) ∧ (∀ g, a = some ⟨g, 0, none⟩ → w.heap.size ≤ g) ∧ dx8 b0 0 a n c L hs 0 w' ∧ Below w.heap.size w w' := by
  subst hn
  refine (look8_any b0 w P o gs room first L y0 y1 y2 hr hfi h1 hL).mono ?_
  rintro e w' ⟨v, bs, rfl, hm, hby, ho, hbw⟩
  rcases ownsRow_split ho with ⟨e1, e2⟩ | ⟨g', cap', rfl, hb, hlt, hcp, hrf, hrg⟩
  · refine ⟨none, 0, fun _ => (none, 0, 0), by rw [e1, e2], fun g hg => (by cases hg), Or.inl ⟨rfl, e2, rfl, List.length_eq_zero_iff.1 e2⟩, hbw⟩
  · exact ⟨some ⟨g', 0, none⟩, cap', _, rfl, fun g hg => by cases hg; exact hb, Or.inr ⟨g', rfl, hcp, dr8.start (B := 0) bs hm hby rfl hrf hrg (Nat.le_trans hb0.size hb) hlt (hb0.trans (hbw.mono hb0.size)) hsm⟩, hbw⟩
def Z10 : List Value := [.int .i64 0, .int .i64 0, .int .i64 0, .int .i64 0, .slice none 0 0, .slice none 0 0, .slice none 0 0, .slice none 0 0, .int .i64 0, .int .i64 0]
/-- what the composite of told has made -/
structure tdE (w : World) (n1 : Nat) (fs : List R3) (n2 : Nat) (bx : List R8) (n3 : Nat) (ff : List R5) (n4 : Nat) (qu : List R8) (g1 k1 g2 k2 : Nat) (h2 : Nat → Hd) (a3 : Option Addr) (k3 : Nat) (h3 : Nat → Hd) (a4 : Option Addr) (k4 : Nat) (h4 : Nat → Hd) (PH : Nat) (W : World) : Prop where
  f1 : dr3 w g1 n1 fs W
  c1 : n1 ≤ k1
  f2 : dr8 w 0 g2 n2 bx h2 0 W
  c2 : n2 ≤ k2
  f3 : dx5 w 0 a3 n3 k3 ff h3 0 W
  f4 : dx8 w 0 a4 n4 k4 qu h4 0 W
  fh : blk W PH Z10 35
  fr : blk W w.heap.size Z10 35
  o1 : g1 < g2
  o2 : ∀ g, a3 = some ⟨g, 0, none⟩ → g2 < g
  o3 : ∀ g, a4 = some ⟨g, 0, none⟩ → g2 < g ∧ ∀ g', a3 = some ⟨g', 0, none⟩ → g' < g
  p1 : PH ≠ g1 ∧ PH ≠ g2 ∧ (∀ g, a3 = some ⟨g, 0, none⟩ → PH ≠ g) ∧ (∀ g, a4 = some ⟨g, 0, none⟩ → PH ≠ g)
  r1 : w.heap.size < g1 ∧ w.heap.size < PH
end Go.Proofs.YtaamahohdnbpiaaGreat
