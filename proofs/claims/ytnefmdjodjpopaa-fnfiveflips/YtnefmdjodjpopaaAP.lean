import Derived.Test.YtnefmdjodjpopaaAO
import Derived.Deep.RegionHeld3
namespace Go.Proofs.Ytnefmdjodjpopaa
open Go.RowKit

def Wk.adv (k : Wk) : Wk := if k.taken + 1 = k.fsize k.field then { k with field := k.fafter k.field, taken := 0 } else { k with taken := k.taken + 1 }
theorem kept.of_below {B b : Nat} {w w1 w2 : World} (h : kept B b w w1) (hb : Below w1.heap.size w1 w2) (hB : B ≤ w1.heap.size) : kept B b w w2 :=
  h.trans ⟨hb.mono hB, fun k _ hk _ _ => (hb.block k (lt_of_block hk)).trans hk⟩
theorem wkAt.below {w w1 : World} {b : Nat} {k : Wk} {v : Value} (h : wkAt w b k v) (hb : Below w.heap.size w w1) : wkAt w1 b k v := (hb.block b (lt_of_block h)).trans h
theorem ownsB.below {w w1 : World} {B : Nat} {v : Value} {l : List Nat} (h : ownsB w B v l) (hb : Below w.heap.size w w1) : ownsB w1 B v l :=
  h.otherBlock (fun g hg => hb.block g (World.ownsRow.lt h g hg).2)
theorem ownsB.sliced {w : World} {B : Nat} {v : Value} {l : List Nat} (h : ownsB w B v l) : ∃ ao cap, v = .slice ao l.length cap := by
  obtain ⟨_, ⟨rfl, h1⟩ | ⟨g, cap, cur, rfl, _⟩⟩ := h
  · exact ⟨none, 0, by rw [h1]⟩
  · exact ⟨_, cap, rfl⟩
theorem adv_be (W V V' : World) (b : Nat) (k : Wk) (ao : Option Addr) (cap : Nat) (h : V.cell? ⟨b, 0, none⟩ = some (.int .i64 (k.field : Int)) ∧ V.cell? ⟨b, 1, none⟩ = some (.int .i64 ((k.taken + 1 : Nat) : Int)) ∧ V.cell? ⟨b, 6, none⟩ = some (.bool k.ext) ∧ V.cell? ⟨b, 7, none⟩ = some (.int .u32 (k.id : Int)) ∧ V.cell? ⟨b, 8, none⟩ = some (.bool k.rtr) ∧ V.cell? ⟨b, 9, none⟩ = some (.int .i64 (k.dlc : Int)) ∧ V.cell? ⟨b, 10, none⟩ = some (.slice ao k.data.length cap) ∧ Below W.heap.size W V) (hz : b < W.heap.size) (hb : Below V.heap.size V V') : (fun V => V.cell? ⟨b, 0, none⟩ = some (.int .i64 (k.field : Int)) ∧ V.cell? ⟨b, 1, none⟩ = some (.int .i64 ((k.taken + 1 : Nat) : Int)) ∧ V.cell? ⟨b, 6, none⟩ = some (.bool k.ext) ∧ V.cell? ⟨b, 7, none⟩ = some (.int .u32 (k.id : Int)) ∧ V.cell? ⟨b, 8, none⟩ = some (.bool k.rtr) ∧ V.cell? ⟨b, 9, none⟩ = some (.int .i64 (k.dlc : Int)) ∧ V.cell? ⟨b, 10, none⟩ = some (.slice ao k.data.length cap) ∧ Below W.heap.size W V) V' := by
  obtain ⟨h0, h1, h2, h3, h4, h5, h6, hbl⟩ := h
  have z : b < V.heap.size := Nat.lt_of_lt_of_le hz hbl.size
  exact ⟨(hb.cell (by exact z)).trans h0, (hb.cell (by exact z)).trans h1, (hb.cell (by exact z)).trans h2, (hb.cell (by exact z)).trans h3, (hb.cell (by exact z)).trans h4, (hb.cell (by exact z)).trans h5, (hb.cell (by exact z)).trans h6, hbl.trans (hb.mono hbl.size)⟩
theorem adv_bel {W V : World} {b : Nat} {k : Wk} {ao : Option Addr} {cap : Nat} (h : V.cell? ⟨b, 0, none⟩ = some (.int .i64 (k.field : Int)) ∧ V.cell? ⟨b, 1, none⟩ = some (.int .i64 ((k.taken + 1 : Nat) : Int)) ∧ V.cell? ⟨b, 6, none⟩ = some (.bool k.ext) ∧ V.cell? ⟨b, 7, none⟩ = some (.int .u32 (k.id : Int)) ∧ V.cell? ⟨b, 8, none⟩ = some (.bool k.rtr) ∧ V.cell? ⟨b, 9, none⟩ = some (.int .i64 (k.dlc : Int)) ∧ V.cell? ⟨b, 10, none⟩ = some (.slice ao k.data.length cap) ∧ Below W.heap.size W V) : Below W.heap.size W V := h.2.2.2.2.2.2.2
set_option maxHeartbeats 2000000 in
theorem advance_wk (w : World) (B b : Nat) (k : Wk) (h : wkI B b k w) (hdl : k.dlc ≤ 1000) (ht : k.taken ≤ 1000000) (hf : k.field ≤ 1000) :
    Calls Try.prog 95 #[.pointer (some ⟨b, 0, none⟩)] w fun e w' => e = .returned (.tuple #[]) ∧ wkI B b k.adv w' ∧ kept B b w w' := by
  obtain ⟨⟨v, hw, ho⟩, hB⟩ := h
  obtain ⟨ao, cap, rfl⟩ := ho.sliced
  have hbz : b < w.heap.size := lt_of_block hw
  obtain ⟨c0, c1, -, -, -, -, c6, c7, c8, c9, c10, -⟩ := hw.cells
  have f0 := hw.free 0
  have f1 := hw.free 1
  have h1 := wk_set (k' := { k with taken := k.taken + 1 }) hw ho hB 1 (.int .i64 ((k.taken : Int) + 1)) rfl (by simp)
  have H1 : Hid (wkAt (w.setCell ⟨b, 1, none⟩ (.int .i64 ((k.taken : Int) + 1))) b { k with taken := k.taken + 1 } (.slice ao k.data.length cap) ∧ ownsB (w.setCell ⟨b, 1, none⟩ (.int .i64 ((k.taken : Int) + 1))) B (.slice ao k.data.length cap) k.data ∧ kept B b w (w.setCell ⟨b, 1, none⟩ (.int .i64 ((k.taken : Int) + 1)))) := h1
  clear h1 hw ho
  by_cases hEq : k.taken + 1 = k.fsize k.field
  · have hq : (((k.taken + 1 : Nat) : Int) == ((k.fsize k.field : Nat) : Int)) = true := by simp; omega
    have HA : Hid (k.adv = { k with field := k.fafter k.field, taken := 0 }) := by unfold Hid Wk.adv; rw [if_pos hEq]
    clear hEq
    go_enter Try.func95, Try.ntmps95
    go_wp2
    have hz1 : b < (w.setCell ⟨b, 1, none⟩ (.int .i64 ((k.taken : Int) + 1))).heap.size := by simpa using hbz
    obtain ⟨d0, d1, -, -, -, -, d6, d7, d8, d9, d10, -⟩ := H1.out.1.cells
    clear c0 c1 c6 c7 c8 c9 c10 f0 f1
    generalize w.setCell ⟨b, 1, none⟩ (.int .i64 ((k.taken : Int) + 1)) = W at *
    go_region_held3 (fun V => V.cell? ⟨b, 0, none⟩ = some (.int .i64 (k.field : Int)) ∧ V.cell? ⟨b, 1, none⟩ = some (.int .i64 ((k.taken + 1 : Nat) : Int)) ∧ V.cell? ⟨b, 6, none⟩ = some (.bool k.ext) ∧ V.cell? ⟨b, 7, none⟩ = some (.int .u32 (k.id : Int)) ∧ V.cell? ⟨b, 8, none⟩ = some (.bool k.rtr) ∧ V.cell? ⟨b, 9, none⟩ = some (.int .i64 (k.dlc : Int)) ∧ V.cell? ⟨b, 10, none⟩ = some (.slice ao k.data.length cap) ∧ Below W.heap.size W V) (first | exact ⟨d0, d1, d6, d7, d8, d9, d10, (Below.refl _ _).drew⟩ | exact adv_be _ _ _ _ _ _ _ (by assumption) hz1 (by assumption)) (first | (go_at_call 66; refine (fsize_any _ k.field k k.id ao k.data.length cap hdl).mono ?_; rintro o w2 ⟨rfl, hb2⟩))
    rename_i hS
    have hbel := adv_bel hS
    have hw2 := H1.out.1.below hbel
    have ho2 := H1.out.2.1.below hbel
    have hk2 : kept B b w w2 := H1.out.2.2.of_below hbel (by omega)
    have hz2 : b < w2.heap.size := lt_of_block hw2
    clear hS d0 d1 d6 d7 d8 d9 d10 hb2 hbel
    obtain ⟨e0, e1, -, -, -, -, e6, e7, e8, e9, e10, -⟩ := hw2.cells
    have HW2 : Hid (wkAt w2 b { k with taken := k.taken + 1 } (.slice ao k.data.length cap)) := hw2
    clear hw2
    go_wp2
    go_region_with (first | (go_at_call 101; refine (fafter_any _ k.field k k.id ao k.data.length cap hf).mono ?_; rintro o w3 ⟨rfl, hb3⟩; obtain ⟨p0, p1, -⟩ := (wkAt.below (w := w2.drew) HW2.out hb3).cells; have p2 := (wkAt.below (w := w2.drew) HW2.out hb3).free 0; have p3 := (wkAt.below (w := w2.drew) HW2.out hb3).free 1))
    all_goals
      go_wp2
      go_end0
      rw [HA.out]
      have hw3 := wkAt.below (w := w2.drew) HW2.out hb3
      have ho3 := ownsB.below (w := w2.drew) ho2 hb3
      have hk3 : kept B b w w3 := kept.of_below (w1 := w2.drew) ⟨hk2.bel.drew, hk2.oth⟩ hb3 (by simp; omega)
      have h4 := wk_set (k' := { k with taken := k.taken + 1, field := k.fafter k.field }) hw3 ho3 hB 0 (.int .i64 ((k.fafter k.field : Nat) : Int)) rfl (by simp)
      have h5 := wk_set (k' := { k with field := k.fafter k.field, taken := 0 }) h4.1 h4.2.1 hB 1 (.int .i64 0) rfl (by simp)
      exact ⟨rfl, ⟨⟨_, h5.1, h5.2.1⟩, hB⟩, (hk3.trans h4.2.2).trans h5.2.2⟩
  · have hq : (((k.taken + 1 : Nat) : Int) == ((k.fsize k.field : Nat) : Int)) = false := by simp; omega
    have HA : Hid (k.adv = { k with taken := k.taken + 1 }) := by unfold Hid Wk.adv; rw [if_neg hEq]
    clear hEq
    go_enter Try.func95, Try.ntmps95
    go_wp2
    have hz1 : b < (w.setCell ⟨b, 1, none⟩ (.int .i64 ((k.taken : Int) + 1))).heap.size := by simpa using hbz
    obtain ⟨d0, d1, -, -, -, -, d6, d7, d8, d9, d10, -⟩ := H1.out.1.cells
    clear c0 c1 c6 c7 c8 c9 c10 f0 f1
    generalize w.setCell ⟨b, 1, none⟩ (.int .i64 ((k.taken : Int) + 1)) = W at *
    go_region_held3 (fun V => V.cell? ⟨b, 0, none⟩ = some (.int .i64 (k.field : Int)) ∧ V.cell? ⟨b, 1, none⟩ = some (.int .i64 ((k.taken + 1 : Nat) : Int)) ∧ V.cell? ⟨b, 6, none⟩ = some (.bool k.ext) ∧ V.cell? ⟨b, 7, none⟩ = some (.int .u32 (k.id : Int)) ∧ V.cell? ⟨b, 8, none⟩ = some (.bool k.rtr) ∧ V.cell? ⟨b, 9, none⟩ = some (.int .i64 (k.dlc : Int)) ∧ V.cell? ⟨b, 10, none⟩ = some (.slice ao k.data.length cap) ∧ Below W.heap.size W V) (first | exact ⟨d0, d1, d6, d7, d8, d9, d10, (Below.refl _ _).drew⟩ | exact adv_be _ _ _ _ _ _ _ (by assumption) hz1 (by assumption)) (first | (go_at_call 66; refine (fsize_any _ k.field k k.id ao k.data.length cap hdl).mono ?_; rintro o w2 ⟨rfl, hb2⟩))
    rename_i hS
    have hbel := adv_bel hS
    have hw2 := H1.out.1.below hbel
    have ho2 := H1.out.2.1.below hbel
    have hk2 : kept B b w w2 := H1.out.2.2.of_below hbel (by omega)
    have hz2 : b < w2.heap.size := lt_of_block hw2
    clear hS d0 d1 d6 d7 d8 d9 d10 hb2 hbel
    go_wp2
    go_end0
    rw [HA.out]
    exact ⟨rfl, ⟨⟨_, hw2, ho2⟩, hB⟩, hk2⟩
end Go.Proofs.Ytnefmdjodjpopaa
