import Derived.Test.YtjmlalojfghkiaaDoorR20
import Derived.Deep.RegionHeld3
namespace Go.Proofs.YtjmlalojfghkiaaDoor.J
open Go.RowKit
def Wk.adv (k : Wk) : Wk := if k.taken + 1 = k.fsize k.field then { k with field := k.fafter k.field, taken := 0 } else { k with taken := k.taken + 1 }
theorem kept.of_below {B b : Nat} {w w1 w2 : World} (h : kept B b w w1) (hb : Below w1.heap.size w1 w2) (hB : B ≤ w1.heap.size) : kept B b w w2 :=
  h.trans ⟨hb.mono hB, fun k _ hk _ _ => (hb.block k (lt_of_block hk)).trans hk⟩
theorem wkAt.below {w w1 : World} {b : Nat} {k : Wk} {v : Value} (h : wkAt w b k v) (hb : Below w.heap.size w w1) : wkAt w1 b k v := (hb.block b (lt_of_block h)).trans h
theorem ownsB.below {w w1 : World} {B : Nat} {v : Value} {l : List Nat} (h : ownsB w B v l) (hb : Below w.heap.size w w1) : ownsB w1 B v l :=
  h.otherBlock (fun g hg => hb.block g (World.ownsRow.lt h g hg).2)
theorem ownsB.sliced {w : World} {B : Nat} {v : Value} {l : List Nat} (h : ownsB w B v l) : ∃ ao cap, v = .slice ao l.length cap := by
  obtain ⟨_, ⟨rfl, h1⟩ | ⟨g, cap, cur, rfl, _⟩⟩ := h
  · exact ⟨none, 0, by rw [h1]⟩
  · exact ⟨_, cap, rfl⟩
theorem adv_be (W V V' : World) (b : Nat) (k : Wk) (ao : Option Addr) (cap : Nat) (h : V.cell? ⟨b, 0, none⟩ = some (.int .i64 (k.field : Int)) ∧ V.cell? ⟨b, 1, none⟩ = some (.int .i64 ((k.taken + 1 : Nat) : Int)) ∧ V.cell? ⟨b, 6, none⟩ = some (.bool k.ext) ∧ V.cell? ⟨b, 7, none⟩ = some (.int .u32 (k.id : Int)) ∧ V.cell? ⟨b, 8, none⟩ = some (.bool k.rtr) ∧ V.cell? ⟨b, 9, none⟩ = some (.int .i64 (k.dlc : Int)) ∧ V.cell? ⟨b, 10, none⟩ = some (.slice ao k.data.length cap) ∧ Below W.heap.size W V) (hz : b < W.heap.size) (hb : Below V.heap.size V V') : (fun V => V.cell? ⟨b, 0, none⟩ = some (.int .i64 (k.field : Int)) ∧ V.cell? ⟨b, 1, none⟩ = some (.int .i64 ((k.taken + 1 : Nat) : Int)) ∧ V.cell? ⟨b, 6, none⟩ = some (.bool k.ext) ∧ V.cell? ⟨b, 7, none⟩ = some (.int .u32 (k.id : Int)) ∧ V.cell? ⟨b, 8, none⟩ = some (.bool k.rtr) ∧ V.cell? ⟨b, 9, none⟩ = some (.int .i64 (k.dlc : Int)) ∧ V.cell? ⟨b, 10, none⟩ = some (.slice ao k.data.length cap) ∧ Below W.heap.size W V) V' := by
  obtain ⟨h0, h1, h2, h3, h4, h5, h6, hbl⟩ := h
  have z : b < V.heap.size := Nat.lt_of_lt_of_le hz hbl.size
  exact ⟨(hb.cell (by exact z)).trans h0, (hb.cell (by exact z)).trans h1, (hb.cell (by exact z)).trans h2, (hb.cell (by exact z)).trans h3, (hb.cell (by exact z)).trans h4, (hb.cell (by exact z)).trans h5, (hb.cell (by exact z)).trans h6, hbl.trans (hb.mono hbl.size)⟩
theorem adv_bel {W V : World} {b : Nat} {k : Wk} {ao : Option Addr} {cap : Nat} (h : V.cell? ⟨b, 0, none⟩ = some (.int .i64 (k.field : Int)) ∧ V.cell? ⟨b, 1, none⟩ = some (.int .i64 ((k.taken + 1 : Nat) : Int)) ∧ V.cell? ⟨b, 6, none⟩ = some (.bool k.ext) ∧ V.cell? ⟨b, 7, none⟩ = some (.int .u32 (k.id : Int)) ∧ V.cell? ⟨b, 8, none⟩ = some (.bool k.rtr) ∧ V.cell? ⟨b, 9, none⟩ = some (.int .i64 (k.dlc : Int)) ∧ V.cell? ⟨b, 10, none⟩ = some (.slice ao k.data.length cap) ∧ Below W.heap.size W V) : Below W.heap.size W V := h.2.2.2.2.2.2.2
set_option maxHeartbeats 2000000 in
theorem advance_wk (w : World) (B b : Nat) (k : Wk) (h : wkI B b k w) (hdl : k.dlc ≤ 1000) (ht : k.taken ≤ 1000000) (hf : k.field ≤ 1000) :
    Calls Tryd.prog 87 #[.pointer (some ⟨b, 0, none⟩)] w fun e w' => e = .returned (.tuple #[]) ∧ wkI B b k.adv w' ∧ kept B b w w' := by
  obtain ⟨⟨v, hw, ho⟩, hB⟩ := h
  obtain ⟨ao, cap, rfl⟩ := ho.sliced
  have hbz : b < w.heap.size := lt_of_block hw
  obtain ⟨c0, c1, -, -, -, -, c6, c7, c8, c9, c10, -⟩ := hw.cells
  have f0 := hw.free 0
  have f1 := hw.free 1
  have h1 := wk_set (k' := { k with taken := k.taken + 1 }) hw ho hB 1 (.int .i64 ((k.taken : Int) + 1)) rfl (by simp)
  have H1 : Hid (wkAt (w.setCell ⟨b, 1, none⟩ (.int .i64 ((k.taken : Int) + 1))) b { k with taken := k.taken + 1 } (.slice ao k.data.length cap) ∧ ownsB (w.setCell ⟨b, 1, none⟩ (.int .i64 ((k.taken : Int) + 1))) B (.slice ao k.data.length cap) k.data ∧ kept B b w (w.setCell ⟨b, 1, none⟩ (.int .i64 ((k.taken : Int) + 1)))) := h1
  clear h1 hw ho
  by_cases hEq : k.taken + 1 = k.fsize k.field
  · have hq : (((k.taken + 1 : Nat) : Int) == ((k.fsize k.field : Nat) : Int)) = true := by simp; omega
    have HA : Hid (k.adv = { k with field := k.fafter k.field, taken := 0 }) := by unfold Hid Wk.adv; rw [if_pos hEq]
    clear hEq
    go_enter Tryd.func87, Tryd.ntmps87
    go_wp2
    have hz1 : b < (w.setCell ⟨b, 1, none⟩ (.int .i64 ((k.taken : Int) + 1))).heap.size := by simpa using hbz
    obtain ⟨d0, d1, -, -, -, -, d6, d7, d8, d9, d10, -⟩ := H1.out.1.cells
    clear c0 c1 c6 c7 c8 c9 c10 f0 f1
    generalize w.setCell ⟨b, 1, none⟩ (.int .i64 ((k.taken : Int) + 1)) = W at *
    go_region_held3 (fun V => V.cell? ⟨b, 0, none⟩ = some (.int .i64 (k.field : Int)) ∧ V.cell? ⟨b, 1, none⟩ = some (.int .i64 ((k.taken + 1 : Nat) : Int)) ∧ V.cell? ⟨b, 6, none⟩ = some (.bool k.ext) ∧ V.cell? ⟨b, 7, none⟩ = some (.int .u32 (k.id : Int)) ∧ V.cell? ⟨b, 8, none⟩ = some (.bool k.rtr) ∧ V.cell? ⟨b, 9, none⟩ = some (.int .i64 (k.dlc : Int)) ∧ V.cell? ⟨b, 10, none⟩ = some (.slice ao k.data.length cap) ∧ Below W.heap.size W V) (first | exact ⟨d0, d1, d6, d7, d8, d9, d10, (Below.refl _ _).drew⟩ | exact adv_be _ _ _ _ _ _ _ (by assumption) hz1 (by assumption)) (first | (go_at_call 91; refine (fsize_any _ k.field k k.id ao k.data.length cap hdl).mono ?_; rintro o w2 ⟨rfl, hb2⟩))
    rename_i hS
    have hbel := adv_bel hS
    have hw2 := H1.out.1.below hbel
    have ho2 := H1.out.2.1.below hbel
    have hk2 : kept B b w w2 := H1.out.2.2.of_below hbel (by omega)
    have hz2 : b < w2.heap.size := lt_of_block hw2
    clear hS d0 d1 d6 d7 d8 d9 d10 hb2 hbel
    obtain ⟨e0, e1, -, -, -, -, e6, e7, e8, e9, e10, -⟩ := hw2.cells
    have HW2 : Hid (wkAt w2 b { k with taken := k.taken + 1 } (.slice ao k.data.length cap)) := hw2
    clear hw2
    go_wp2
    go_region_with (first | (go_at_call 92; refine (fafter_any _ k.field k k.id ao k.data.length cap hf).mono ?_; rintro o w3 ⟨rfl, hb3⟩; obtain ⟨p0, p1, -⟩ := (wkAt.below (w := w2.drew) HW2.out hb3).cells; have p2 := (wkAt.below (w := w2.drew) HW2.out hb3).free 0; have p3 := (wkAt.below (w := w2.drew) HW2.out hb3).free 1))
    all_goals
      go_wp2
      go_end0
      rw [HA.out]
      have hw3 := wkAt.below (w := w2.drew) HW2.out hb3
      have ho3 := ownsB.below (w := w2.drew) ho2 hb3
      have hk3 : kept B b w w3 := kept.of_below (w1 := w2.drew) ⟨hk2.bel.drew, hk2.oth⟩ hb3 (by simp; omega)
      have h4 := wk_set (k' := { k with taken := k.taken + 1, field := k.fafter k.field }) hw3 ho3 hB 0 (.int .i64 ((k.fafter k.field : Nat) : Int)) rfl (by simp)
      have h5 := wk_set (k' := { k with field := k.fafter k.field, taken := 0 }) h4.1 h4.2.1 hB 1 (.int .i64 0) rfl (by simp)
      exact ⟨rfl, ⟨⟨_, h5.1, h5.2.1⟩, hB⟩, (hk3.trans h4.2.2).trans h5.2.2⟩
  · have hq : (((k.taken + 1 : Nat) : Int) == ((k.fsize k.field : Nat) : Int)) = false := by simp; omega
    have HA : Hid (k.adv = { k with taken := k.taken + 1 }) := by unfold Hid Wk.adv; rw [if_neg hEq]
    clear hEq
    go_enter Tryd.func87, Tryd.ntmps87
    go_wp2
    have hz1 : b < (w.setCell ⟨b, 1, none⟩ (.int .i64 ((k.taken : Int) + 1))).heap.size := by simpa using hbz
    obtain ⟨d0, d1, -, -, -, -, d6, d7, d8, d9, d10, -⟩ := H1.out.1.cells
    clear c0 c1 c6 c7 c8 c9 c10 f0 f1
    generalize w.setCell ⟨b, 1, none⟩ (.int .i64 ((k.taken : Int) + 1)) = W at *
    go_region_held3 (fun V => V.cell? ⟨b, 0, none⟩ = some (.int .i64 (k.field : Int)) ∧ V.cell? ⟨b, 1, none⟩ = some (.int .i64 ((k.taken + 1 : Nat) : Int)) ∧ V.cell? ⟨b, 6, none⟩ = some (.bool k.ext) ∧ V.cell? ⟨b, 7, none⟩ = some (.int .u32 (k.id : Int)) ∧ V.cell? ⟨b, 8, none⟩ = some (.bool k.rtr) ∧ V.cell? ⟨b, 9, none⟩ = some (.int .i64 (k.dlc : Int)) ∧ V.cell? ⟨b, 10, none⟩ = some (.slice ao k.data.length cap) ∧ Below W.heap.size W V) (first | exact ⟨d0, d1, d6, d7, d8, d9, d10, (Below.refl _ _).drew⟩ | exact adv_be _ _ _ _ _ _ _ (by assumption) hz1 (by assumption)) (first | (go_at_call 91; refine (fsize_any _ k.field k k.id ao k.data.length cap hdl).mono ?_; rintro o w2 ⟨rfl, hb2⟩))
    rename_i hS
    have hbel := adv_bel hS
    have hw2 := H1.out.1.below hbel
    have ho2 := H1.out.2.1.below hbel
    have hk2 : kept B b w w2 := H1.out.2.2.of_below hbel (by omega)
    have hz2 : b < w2.heap.size := lt_of_block hw2
    clear hS d0 d1 d6 d7 d8 d9 d10 hb2 hbel
    go_wp2
    go_end0
    rw [HA.out]
    exact ⟨rfl, ⟨⟨_, hw2, ho2⟩, hB⟩, hk2⟩
/-- the bounds that the walk's own numbers keep -/
structure wkOk (k : Wk) : Prop where
  run : k.last.2 ≤ 50000
  sum : k.sum < 32768
  id : k.id < 1073741824
  dlc : k.dlc ≤ 400
  crc : k.crc < 400000
  taken : k.taken ≤ 1000
  field : k.field ≤ 100
  data : k.field = 9 → k.data.length ≤ 1000 ∧ (¬ k.taken % 8 = 0 → k.data ≠ []) ∧ (∀ x ∈ k.data, x < 256)
def Wk.heard (k : Wk) (c : Nat) : Wk := { k with last := M.hear k.last c }
/-- one letter taken: the walk behind it, the code -/
def Wk.take (k : Wk) (c : Nat) : Wk × Nat :=
  if k.due = true ∧ c = k.last.1 then (k, 3)
  else if k.due = true then (k.heard c, 0)
  else (((k.heard c).keep (c - 48)).adv, (k.heard c).plainCode (c - 48))
theorem keep_dlc (k : Wk) (bit : Nat) (hb : bit < 2) (h : k.dlc ≤ 400) : (k.keep bit).dlc ≤ 1000 := by
  unfold Wk.keep Wk.keep1
  (repeat' split) <;> ((try dsimp only); omega)
theorem keep_taken (k : Wk) (bit : Nat) : (k.keep bit).taken = k.taken := by
  unfold Wk.keep Wk.keep1
  (repeat' split) <;> rfl
theorem keep_field (k : Wk) (bit : Nat) : (k.keep bit).field = k.field := by
  unfold Wk.keep Wk.keep1
  (repeat' split) <;> rfl
set_option maxHeartbeats 2000000 in
theorem take_wk (w : World) (B b : Nat) (k : Wk) (c : Nat) (h : wkI B b k w) (hok : wkOk k) (hc : M.isL c) :
    Calls Tryd.prog 67 #[.pointer (some ⟨b, 0, none⟩), .int .i32 (c : Int)] w fun e w' => e = .returned (.int .i64 ((k.take c).2 : Nat)) ∧ wkI B b (k.take c).1 w' ∧ kept B b w w' := by
  have h' := h
  obtain ⟨⟨v, hw, ho⟩, hB⟩ := h'
  have c2 := hw.cells.2.2.1
  have HI : Hid (wkI B b k w) := h
  have HW : Hid (wkAt w b k v) := hw
  clear h hw ho
  cases hdue : k.due
  · -- a plain bit
    have HE : Hid (k.take c = (((k.heard c).keep (c - 48)).adv, (k.heard c).plainCode (c - 48))) := by unfold Hid Wk.take; simp [hdue]
    have HD : Hid (k.due = false) := hdue
    have hbit : c - 48 < 2 := by rcases hc with rfl | rfl <;> decide
    have hcb : (c : Int) - 48 = ((c - 48 : Nat) : Int) := by rcases hc with rfl | rfl <;> rfl
    have HCB : Hid ((c : Int) - 48 = ((c - 48 : Nat) : Int)) := hcb
    have hc1 : (48 : Int) ≤ (c : Int) := by rcases hc with rfl | rfl <;> decide
    have hc2 : (c : Int) ≤ 49 := by rcases hc with rfl | rfl <;> decide
    have HOK : Hid (wkOk k) := hok
    clear hdue hcb hok hc
    go_enter Tryd.func67, Tryd.ntmps67
    go_wp2_with fail
    refine (due_wk w b k v HW.out).mono ?_
    rw [HD.out]
    rintro o w1 ⟨rfl, rfl⟩
    go_wp2_with fail
    refine (hear_wk w B b k c HI.out (by have := HOK.out.run; omega)).mono ?_
    rintro o w1 ⟨rfl, hI1, hk1⟩
    have HI1 : Hid (wkI B b (k.heard c) w1) := hI1
    clear hI1
    obtain ⟨⟨v1, hw1, _⟩, _⟩ := HI1.out
    go_wp2_with fail
    rw [HCB.out]
    refine (plainCode_wk w1 b (k.heard c) v1 (c - 48) hw1 hbit).mono ?_
    rintro o w2 ⟨rfl, q, rfl⟩
    have hI2 : wkI B b (k.heard c) (w1.drewN q) := by
      obtain ⟨⟨v2, a2, b2⟩, l2⟩ := HI1.out
      exact ⟨⟨v2, a2, b2.drewN q⟩, l2⟩
    have hk2 : kept B b w (w1.drewN q) := hk1.drewN q
    clear hw1 hk1
    go_wp2_with fail
    refine (keep_wk (w1.drewN q) B b (k.heard c) (c - 48) hI2 hbit HOK.out.sum HOK.out.id (by have := HOK.out.dlc; show k.dlc < 1000000; omega) (by have := HOK.out.crc; show k.crc < 1000000; omega) (by have := HOK.out.taken; show k.taken ≤ 1000000; omega) HOK.out.data).mono ?_
    rintro o w3 ⟨rfl, hI3, hk3⟩
    go_wp2_with fail
    refine (advance_wk w3 B b ((k.heard c).keep (c - 48)) hI3 (keep_dlc _ _ hbit HOK.out.dlc) (by rw [keep_taken]; have := HOK.out.taken; show k.taken ≤ 1000000; omega) (by rw [keep_field]; have := HOK.out.field; show k.field ≤ 1000; omega)).mono ?_
    rintro o w4 ⟨rfl, hI4, hk4⟩
    go_wp2
    go_ret
    rw [HE.out]
    exact ⟨rfl, hI4, hk2.trans (hk3.trans hk4)⟩
  · by_cases hl : c = k.last.1
    · have HE : Hid (k.take c = (k, 3)) := by unfold Hid Wk.take; rw [if_pos ⟨hdue, hl⟩]
      have hq : ((c : Int) == (k.last.1 : Int)) = true := by simp; omega
      have HD : Hid (k.due = true) := hdue
      clear hdue hl hok hc
      go_enter Tryd.func67, Tryd.ntmps67
      go_wp2_with (first | (go_at_call 41; refine (due_wk w b k v HW.out).mono ?_; rw [HD.out]; rintro o w1 ⟨rfl, rfl⟩))
      go_ret
      rw [HE.out]
      exact ⟨rfl, HI.out, kept.refl _ _ _⟩
    · have HE : Hid (k.take c = (k.heard c, 0)) := by unfold Hid Wk.take; rw [if_neg (fun hh => hl hh.2), if_pos hdue]
      have hq : ((c : Int) == (k.last.1 : Int)) = false := by simp; omega
      have HD : Hid (k.due = true) := hdue
      have HR : Hid (k.last.2 ≤ 100000) := by have := hok.run; unfold Hid; omega
      clear hdue hl hok hc
      go_enter Tryd.func67, Tryd.ntmps67
      go_wp2_with (first | (go_at_call 41; refine (due_wk w b k v HW.out).mono ?_; rw [HD.out]; rintro o w1 ⟨rfl, rfl⟩))
      refine (hear_wk w B b k c HI.out HR.out).mono ?_
      rintro o w1 ⟨rfl, hI1, hk1⟩
      go_wp2
      go_ret
      rw [HE.out]
      exact ⟨rfl, hI1, hk1⟩
/-- what holds of every walk that goes on -/
structure Wk.Inv (k : Wk) : Prop where
  f1 : 1 ≤ k.field
  f2 : k.field ≤ 14
  tk : k.taken < k.fsize k.field
  sm : k.sum < 32768
  idb : k.id < 2 ^ (if k.field = 1 then 0 else if k.field = 2 then k.taken else if k.field ≤ 4 then 11 else if k.field = 5 then 11 + k.taken else 29)
  dlb : k.dlc < 2 ^ (if k.field < 8 then 0 else if k.field = 8 then k.taken else 4)
  crb : k.crc < 2 ^ (if k.field < 10 then 0 else if k.field = 10 then k.taken else 15)
  dan : k.field < 9 → k.data = []
  dat : k.field = 9 → k.data.length = (k.taken + 7) / 8
  dal : k.data.length ≤ 8
  das : ∀ x ∈ k.data, x < 256
theorem dlen_le (k : Wk) : k.dlen ≤ 8 := by unfold Wk.dlen; split <;> omega
theorem fsize_le (k : Wk) (f : Nat) : k.fsize f ≤ 64 := by
  have := dlen_le k
  unfold Wk.fsize
  (repeat' split) <;> omega
theorem pow_le29 (n : Nat) (h : n ≤ 29) : 2 ^ n ≤ 536870912 := Nat.le_trans (Nat.pow_le_pow_right (by decide) h) (by decide)
theorem Wk.Inv.ok {k : Wk} (h : k.Inv) (hr : k.last.2 ≤ 50000) : wkOk k := by
  have ht := fsize_le k k.field
  have ht2 := h.tk
  refine ⟨hr, h.sm, ?_, ?_, ?_, by omega, by have := h.f2; omega, fun h9 => ⟨by have := h.dal; omega, ?_, h.das⟩⟩
  · refine Nat.lt_of_lt_of_le h.idb (Nat.le_trans (pow_le29 _ ?_) (by decide))
    have h3 := h.f2
    split
    · omega
    · split
      · rename_i h2
        rw [h2] at ht2
        have : k.fsize 2 = 11 := rfl
        omega
      · split
        · omega
        · split
          · rename_i h5
            rw [h5] at ht2
            have : k.fsize 5 = 18 := rfl
            omega
          · omega
  · have hb := h.dlb
    refine Nat.le_of_lt_succ (Nat.lt_of_lt_of_le hb ?_)
    split
    · decide
    · split
      · rename_i h8
        rw [h8] at ht2
        have : k.fsize 8 = 4 := rfl
        exact Nat.le_trans (Nat.pow_le_pow_right (by decide) (show k.taken ≤ 4 by omega)) (by decide)
      · decide
  · have hb := h.crb
    refine Nat.lt_of_lt_of_le hb ?_
    split
    · decide
    · split
      · rename_i h10
        rw [h10] at ht2
        have : k.fsize 10 = 15 := rfl
        exact Nat.le_trans (Nat.pow_le_pow_right (by decide) (show k.taken ≤ 15 by omega)) (by decide)
      · decide
  · intro h8 e
    have := h.dat h9
    rw [e] at this
    simp at this
    omega
set_option linter.unusedSimpArgs false
theorem keepD_len (data : List Nat) (taken bit : Nat) (h : data.length = (taken + 7) / 8) : (keepD data taken bit).length = (taken + 1 + 7) / 8 := by
  unfold keepD
  split
  · rw [List.length_append, List.length_singleton]; omega
  · rw [List.length_set]; omega
theorem keepD_small (data : List Nat) (taken bit : Nat) (hb : bit < 2) (h : ∀ x ∈ data, x < 256) : ∀ x ∈ keepD data taken bit, x < 256 := by
  unfold keepD
  intro x hx
  split at hx
  · rw [List.mem_append, List.mem_singleton] at hx
    rcases hx with hx | rfl
    · exact h x hx
    · omega
  · rcases List.mem_or_eq_of_mem_set hx with hx | rfl
    · exact h x hx
    · omega
theorem pow_step (x bit n : Nat) (h : x < 2 ^ n) (hb : bit < 2) : 2 * x + bit < 2 ^ (n + 1) := by
  rw [Nat.pow_succ]; omega
set_option maxHeartbeats 1000000 in
theorem inv_adv (k : Wk) (bit : Nat) (hb : bit < 2) (h : k.Inv) (hg : k.plainCode bit = 0 ∨ k.plainCode bit = 1) : ((k.keep bit).adv).Inv := by
  obtain ⟨f1, f2, tk, sm, idb, dlb, crb, dan, dat, dal, das⟩ := h
  obtain ⟨field, taken, ⟨la, lb⟩, sum, crc, ext, id, rtr, dlc, data, code⟩ := k
  simp only at f1 f2 tk sm idb dlb crb dan dat dal das
  have hst := M.stepN_lt sum bit
  rcases (show field = 1 ∨ field = 2 ∨ field = 3 ∨ field = 4 ∨ field = 5 ∨ field = 6 ∨ field = 7 ∨ field = 8 ∨ field = 9 ∨ field = 10 ∨ field = 11 ∨ field = 12 ∨ field = 13 ∨ field = 14 from by omega) with rfl | rfl | rfl | rfl | rfl | rfl | rfl | rfl | rfl | rfl | rfl | rfl | rfl | rfl
  · -- Sof
    have t0 : taken = 0 := by simp [Wk.fsize] at tk; omega
    subst t0
    simp at idb dlb crb dan
    subst idb dlb crb dan
    simp [Wk.keep, Wk.keep1, Wk.adv, Wk.fsize, Wk.fafter]
    constructor <;> (try dsimp only) <;> (try simp [Wk.fsize]) <;> (try omega)
  · -- IdA
    simp [Wk.fsize] at tk
    simp at idb dlb crb dan
    subst dlb crb dan
    have hid := pow_step id bit taken idb hb
    by_cases hT : taken + 1 = 11
    · have t10 : taken = 10 := by omega
      subst t10
      simp [Wk.keep, Wk.keep1, Wk.adv, Wk.fsize, Wk.fafter]
      constructor <;> (try dsimp only) <;> (try simp [Wk.fsize]) <;> (try omega)
    · simp [Wk.keep, Wk.keep1, Wk.adv, Wk.fsize, Wk.fafter, hT]
      constructor <;> (try dsimp only) <;> (try simp [Wk.fsize]) <;> (try omega)
  · -- Rtr
    have t0 : taken = 0 := by simp [Wk.fsize] at tk; omega
    subst t0
    simp at idb dlb crb dan
    subst dlb crb dan
    simp [Wk.keep, Wk.keep1, Wk.adv, Wk.fsize, Wk.fafter]
    constructor <;> (try dsimp only) <;> (try simp [Wk.fsize]) <;> (try omega)
  · -- Ide
    have t0 : taken = 0 := by simp [Wk.fsize] at tk; omega
    subst t0
    simp at idb dlb crb dan
    subst dlb crb dan
    rcases (show bit = 0 ∨ bit = 1 from by omega) with rfl | rfl
    · simp [Wk.keep, Wk.keep1, Wk.adv, Wk.fsize, Wk.fafter]
      constructor <;> (try dsimp only) <;> (try simp [Wk.fsize]) <;> (try omega)
    · simp [Wk.keep, Wk.keep1, Wk.adv, Wk.fsize, Wk.fafter]
      constructor <;> (try dsimp only) <;> (try simp [Wk.fsize]) <;> (try omega)
  · -- IdB
    simp [Wk.fsize] at tk
    simp at idb dlb crb dan
    subst dlb crb dan
    have hid := pow_step id bit (11 + taken) idb hb
    by_cases hT : taken + 1 = 18
    · have t10 : taken = 17 := by omega
      subst t10
      simp [Wk.keep, Wk.keep1, Wk.adv, Wk.fsize, Wk.fafter]
      constructor <;> (try dsimp only) <;> (try simp [Wk.fsize]) <;> (try omega)
    · simp [Wk.keep, Wk.keep1, Wk.adv, Wk.fsize, Wk.fafter, hT]
      constructor <;> (try dsimp only) <;> (try simp [Wk.fsize]) <;> (try omega)
  · -- RtrX
    have t0 : taken = 0 := by simp [Wk.fsize] at tk; omega
    subst t0
    simp at idb dlb crb dan
    subst dlb crb dan
    simp [Wk.keep, Wk.keep1, Wk.adv, Wk.fsize, Wk.fafter]
    constructor <;> (try dsimp only) <;> (try simp [Wk.fsize]) <;> (try omega)
    cases ext <;> simp
  · -- Res
    simp at idb dlb crb dan
    subst dlb crb dan
    cases ext
    · have t0 : taken = 0 := by simp [Wk.fsize] at tk; omega
      subst t0
      simp [Wk.keep, Wk.keep1, Wk.adv, Wk.fsize, Wk.fafter]
      constructor <;> (try dsimp only) <;> (try simp [Wk.fsize]) <;> (try omega)
    · have t0 : taken = 0 ∨ taken = 1 := by simp [Wk.fsize] at tk; omega
      rcases t0 with rfl | rfl
      · simp [Wk.keep, Wk.keep1, Wk.adv, Wk.fsize, Wk.fafter]
        constructor <;> (try dsimp only) <;> (try simp [Wk.fsize]) <;> (try omega)
      · simp [Wk.keep, Wk.keep1, Wk.adv, Wk.fsize, Wk.fafter]
        constructor <;> (try dsimp only) <;> (try simp [Wk.fsize]) <;> (try omega)
  · -- Dlc
    simp [Wk.fsize] at tk
    simp at idb dlb crb dan
    subst crb dan
    have hid := pow_step dlc bit taken dlb hb
    by_cases hT : taken + 1 = 4
    · have t10 : taken = 3 := by omega
      subst t10
      by_cases hz : (Wk.dlen ⟨8, 3, (la, lb), M.stepN sum bit, 0, ext, id, rtr, 2 * dlc + bit, [], code⟩) = 0
      · have e : (Wk.keep ⟨8, 3, (la, lb), sum, 0, ext, id, rtr, dlc, [], code⟩ bit).adv = ⟨10, 0, (la, lb), M.stepN sum bit, 0, ext, id, rtr, 2 * dlc + bit, [], code⟩ := by
          simp [Wk.keep, Wk.keep1, Wk.adv, Wk.fsize, Wk.fafter, hz]
        rw [e]
        constructor <;> (try dsimp only) <;> (try simp [Wk.fsize]) <;> (try omega)
      · have e : (Wk.keep ⟨8, 3, (la, lb), sum, 0, ext, id, rtr, dlc, [], code⟩ bit).adv = ⟨9, 0, (la, lb), M.stepN sum bit, 0, ext, id, rtr, 2 * dlc + bit, [], code⟩ := by
          simp [Wk.keep, Wk.keep1, Wk.adv, Wk.fsize, Wk.fafter, hz]
        rw [e]
        have hz' : 0 < Wk.dlen ⟨9, 0, (la, lb), M.stepN sum bit, 0, ext, id, rtr, 2 * dlc + bit, [], code⟩ := Nat.pos_of_ne_zero hz
        constructor <;> (try dsimp only) <;> (try simp [Wk.fsize]) <;> (try omega)
    · simp [Wk.keep, Wk.keep1, Wk.adv, Wk.fsize, Wk.fafter, hT]
      constructor <;> (try dsimp only) <;> (try simp [Wk.fsize]) <;> (try omega)
  · -- Data
    simp at idb dlb crb dat
    subst crb
    have hd8 := dlen_le ⟨9, taken, (la, lb), M.stepN sum bit, 0, ext, id, rtr, dlc, keepD data taken bit, code⟩
    have tk' : taken < 8 * Wk.dlen ⟨9, taken, (la, lb), M.stepN sum bit, 0, ext, id, rtr, dlc, keepD data taken bit, code⟩ := by simpa [Wk.fsize, Wk.dlen] using tk
    have hkl := keepD_len data taken bit dat
    have hks := keepD_small data taken bit hb das
    by_cases hT : taken + 1 = 8 * Wk.dlen ⟨9, taken, (la, lb), M.stepN sum bit, 0, ext, id, rtr, dlc, keepD data taken bit, code⟩
    · have e : (Wk.keep ⟨9, taken, (la, lb), sum, 0, ext, id, rtr, dlc, data, code⟩ bit).adv = ⟨10, 0, (la, lb), M.stepN sum bit, 0, ext, id, rtr, dlc, keepD data taken bit, code⟩ := by
        simp [Wk.keep, Wk.keep1, Wk.adv, Wk.fsize, Wk.fafter, hT]
      rw [e]
      constructor <;> (try dsimp only) <;> (try simp [Wk.fsize]) <;> (try omega)
    · have e : (Wk.keep ⟨9, taken, (la, lb), sum, 0, ext, id, rtr, dlc, data, code⟩ bit).adv = ⟨9, taken + 1, (la, lb), M.stepN sum bit, 0, ext, id, rtr, dlc, keepD data taken bit, code⟩ := by
        simp [Wk.keep, Wk.keep1, Wk.adv, Wk.fsize, Wk.fafter, hT]
      rw [e]
      have hd' : Wk.dlen ⟨9, taken + 1, (la, lb), M.stepN sum bit, 0, ext, id, rtr, dlc, keepD data taken bit, code⟩ = Wk.dlen ⟨9, taken, (la, lb), M.stepN sum bit, 0, ext, id, rtr, dlc, keepD data taken bit, code⟩ := rfl
      constructor <;> (try dsimp only) <;> (try simp [Wk.fsize]) <;> (try omega)
  · -- Crc
    simp [Wk.fsize] at tk
    simp at idb dlb crb
    have hid := pow_step crc bit taken crb hb
    by_cases hT : taken + 1 = 15
    · have t10 : taken = 14 := by omega
      subst t10
      simp [Wk.keep, Wk.keep1, Wk.adv, Wk.fsize, Wk.fafter]
      constructor <;> (try dsimp only) <;> (try simp [Wk.fsize]) <;> (try omega)
    · simp [Wk.keep, Wk.keep1, Wk.adv, Wk.fsize, Wk.fafter, hT]
      constructor <;> (try dsimp only) <;> (try simp [Wk.fsize]) <;> (try omega)
  · -- CrcDel
    have t0 : taken = 0 := by simp [Wk.fsize] at tk; omega
    subst t0
    simp at idb dlb crb
    simp [Wk.keep, Wk.keep1, Wk.adv, Wk.fsize, Wk.fafter]
    constructor <;> (try dsimp only) <;> (try simp [Wk.fsize]) <;> (try omega)
  · -- Ack
    have t0 : taken = 0 := by simp [Wk.fsize] at tk; omega
    subst t0
    simp at idb dlb crb
    simp [Wk.keep, Wk.keep1, Wk.adv, Wk.fsize, Wk.fafter]
    constructor <;> (try dsimp only) <;> (try simp [Wk.fsize]) <;> (try omega)
  · -- AckDel
    have t0 : taken = 0 := by simp [Wk.fsize] at tk; omega
    subst t0
    simp at idb dlb crb
    simp [Wk.keep, Wk.keep1, Wk.adv, Wk.fsize, Wk.fafter]
    constructor <;> (try dsimp only) <;> (try simp [Wk.fsize]) <;> (try omega)
  · -- Eof
    simp [Wk.fsize] at tk
    simp at idb dlb crb
    have hT : ¬ taken = 6 := by
      intro e
      subst e
      rcases (show bit = 0 ∨ bit = 1 from by omega) with rfl | rfl <;> simp [Wk.plainCode, Wk.eofCode] at hg
    have hT' : ¬ taken + 1 = 7 := by omega
    simp [Wk.keep, Wk.keep1, Wk.adv, Wk.fsize, Wk.fafter, hT]
    constructor <;> (try dsimp only) <;> (try simp [Wk.fsize]) <;> (try omega)
end Go.Proofs.YtjmlalojfghkiaaDoor.J
