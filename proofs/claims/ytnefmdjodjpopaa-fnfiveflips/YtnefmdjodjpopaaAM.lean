import Derived.Test.YtnefmdjodjpopaaAL
namespace Go.Proofs.Ytnefmdjodjpopaa
open Go.RowKit

/-- the walk in block b, its letters in rows of its own from block B on -/
structure wkI (B b : Nat) (k : Wk) (w : World) : Prop where
  ex : ∃ v, wkAt w b k v ∧ ownsB w B v k.data
  le : B ≤ b
/-- what a method of the walk leaves: all below B, and every block that is neither b nor a row of letters -/
structure kept (B b : Nat) (w w' : World) : Prop where
  bel : Below B w w'
  oth : Lib.OthersKept 5 (some b) w w'
theorem kept.refl (B b : Nat) (w : World) : kept B b w w := ⟨Below.refl _ _, Lib.OthersKept.refl _ _ _⟩
theorem kept.trans {B b : Nat} {w w1 w2 : World} (h : kept B b w w1) (k : kept B b w1 w2) : kept B b w w2 := ⟨h.bel.trans k.bel, h.oth.trans k.oth⟩
theorem kept.set {B b : Nat} {w w1 : World} (h : kept B b w w1) (hB : B ≤ b) (j : Nat) (x : Value) : kept B b w (w1.setCell ⟨b, j, none⟩ x) :=
  ⟨h.bel.setCell (by exact hB) x, h.oth.setCell ⟨b, j, none⟩ rfl x⟩
theorem kept.drewN {B b : Nat} {w w1 : World} (h : kept B b w w1) (q : Nat) : kept B b w (w1.drewN q) := ⟨below_drewN h.bel q, h.oth⟩
theorem kept.alloc {B b : Nat} {w w1 : World} (h : kept B b w w1) (hB : B ≤ w1.heap.size) (o : Obj) : kept B b w (w1.alloc o) := ⟨h.bel.alloc hB o, h.oth.alloc o⟩
theorem ownsB.setB {w : World} {B b : Nat} {v : Value} {l : List Nat} {cs : Array Value} (h : ownsB w B v l) (hb : w.heap[b]? = some (.cells cs 78 (0, 0))) (j : Nat) (x : Value) : ownsB (w.setCell ⟨b, j, none⟩ x) B v l :=
  h.otherBlock (fun g hg => heap_setCell_other w ⟨b, j, none⟩ g x (fun e => by
    obtain ⟨c, fz, hc⟩ := h.kind g hg
    have e' : g = b := e
    rw [e', hb] at hc
    cases hc))
/-- a store into the walk's own block -/
theorem wk_set {w : World} {B b : Nat} {k k' : Wk} {v : Value} (h : wkAt w b k v) (ho : ownsB w B v k.data) (hB : B ≤ b) (j : Nat) (x : Value) (hd : k'.data = k.data)
    (hc : (#[.int .i64 (k.field : Int), .int .i64 (k.taken : Int), .int .i32 (k.last.1 : Int), .int .i64 (k.last.2 : Int), .int .i64 (k.sum : Int), .int .i64 (k.crc : Int), .bool k.ext, .int .u32 (k.id : Int), .bool k.rtr, .int .i64 (k.dlc : Int), v, .int .i64 (k.code : Int)] : Array Value).setIfInBounds j x = #[.int .i64 (k'.field : Int), .int .i64 (k'.taken : Int), .int .i32 (k'.last.1 : Int), .int .i64 (k'.last.2 : Int), .int .i64 (k'.sum : Int), .int .i64 (k'.crc : Int), .bool k'.ext, .int .u32 (k'.id : Int), .bool k'.rtr, .int .i64 (k'.dlc : Int), v, .int .i64 (k'.code : Int)]) :
    wkAt (w.setCell ⟨b, j, none⟩ x) b k' v ∧ ownsB (w.setCell ⟨b, j, none⟩ x) B v k'.data ∧ kept B b w (w.setCell ⟨b, j, none⟩ x) := by
  refine ⟨?_, by rw [hd]; exact ho.setB h j x, (kept.refl B b w).set hB j x⟩
  unfold wkAt
  rw [heap_setCell_same w b j _ _ x h, hc]

theorem hear_wk (w : World) (B b : Nat) (k : Wk) (c : Nat) (h : wkI B b k w) (hr : k.last.2 ≤ 100000) :
    Calls Try.prog 53 #[.pointer (some ⟨b, 2, none⟩), .int .i32 (c : Int)] w fun e w' => e = .returned (.tuple #[]) ∧ wkI B b { k with last := M.hear k.last c } w' ∧ kept B b w w' := by
  obtain ⟨⟨v, hw, ho⟩, hB⟩ := h
  obtain ⟨-, -, c2, c3, -⟩ := hw.cells
  have f2 := hw.free 2
  have f3 := hw.free 3
  have HW : Hid (wkAt w b k v ∧ ownsB w B v k.data) := ⟨hw, ho⟩
  clear hw ho
  by_cases hc : c = k.last.1
  · have hb : ((c : Int) != (k.last.1 : Int)) = false := by simp; omega
    go_enter Try.func53, Try.ntmps53
    go_wp2
    go_end0
    have h1 := wk_set (k' := { k with last := M.hear k.last c }) HW.out.1 HW.out.2 hB 3 (.int .i64 ((k.last.2 : Int) + 1)) rfl (by simp [M.hear, hc])
    exact ⟨rfl, ⟨⟨v, h1.1, h1.2.1⟩, hB⟩, h1.2.2⟩
  · have hb : ((c : Int) != (k.last.1 : Int)) = true := by simp; omega
    go_enter Try.func53, Try.ntmps53
    go_wp2
    go_end0
    have h1 := wk_set (k' := { k with last := (c, k.last.2) }) HW.out.1 HW.out.2 hB 2 (.int .i32 (c : Int)) rfl (by simp)
    have h2 := wk_set (k' := { k with last := (c, 0) }) h1.1 h1.2.1 hB 3 (.int .i64 0) rfl (by simp)
    have h3 := wk_set (k' := { k with last := M.hear k.last c }) h2.1 h2.2.1 hB 3 (.int .i64 1) rfl (by simp [M.hear, hc])
    exact ⟨rfl, ⟨⟨v, h3.1, h3.2.1⟩, hB⟩, (h1.2.2.trans h2.2.2).trans h3.2.2⟩
end Go.Proofs.Ytnefmdjodjpopaa
