import Derived.Test.YtaamahohdnbpiaaGreatHE
import Derived.Deep.RegionHeld3
namespace Go.Proofs.YtaamahohdnbpiaaGreat
open Go.RowKit
theorem invFilter_be (W W' : World) (g1 g2 A B : Nat) (ge : Bool) (gm : Int) (gk : Int) (h : W.cell? ⟨g1, A, none⟩ = some (.bool ge) ∧ W.cell? ⟨g1, A + 1, none⟩ = some (.int .u32 gm) ∧ W.cell? ⟨g1, A + 2, none⟩ = some (.int .u32 gk) ∧ W.cell? ⟨g2, B, none⟩ = some (.bool ge) ∧ W.cell? ⟨g2, B + 1, none⟩ = some (.int .u32 gm) ∧ W.cell? ⟨g2, B + 2, none⟩ = some (.int .u32 gk) ∧ g1 < W.heap.size ∧ g2 < W.heap.size) (hb : Below W.heap.size W W') : (fun W => W.cell? ⟨g1, A, none⟩ = some (.bool ge) ∧ W.cell? ⟨g1, A + 1, none⟩ = some (.int .u32 gm) ∧ W.cell? ⟨g1, A + 2, none⟩ = some (.int .u32 gk) ∧ W.cell? ⟨g2, B, none⟩ = some (.bool ge) ∧ W.cell? ⟨g2, B + 1, none⟩ = some (.int .u32 gm) ∧ W.cell? ⟨g2, B + 2, none⟩ = some (.int .u32 gk) ∧ g1 < W.heap.size ∧ g2 < W.heap.size) W' := by
  obtain ⟨a0, a1, a2, b0, b1, b2, s1, s2⟩ := h
  exact ⟨(hb.cell (by exact s1)).trans a0, (hb.cell (by exact s1)).trans a1, (hb.cell (by exact s1)).trans a2, (hb.cell (by exact s2)).trans b0, (hb.cell (by exact s2)).trans b1, (hb.cell (by exact s2)).trans b2, Nat.lt_of_lt_of_le s1 hb.size, Nat.lt_of_lt_of_le s2 hb.size⟩
set_option maxHeartbeats 4000000 in
set_option maxRecDepth 20000 in
theorem eqFilterS_same (w : World) (a1 a2 : Option Addr) (n1 c1 n2 c2 : Nat) (bs : List R3) (h1 : isR3s w a1 n1 c1 bs) (h2 : isR3s w a2 n2 c2 bs) (hn : n1 ≤ 1048576) :
    Calls Tryz.prog 92 #[.slice a1 n1 c1, .slice a2 n2 c2] w fun o w' => o = .returned (.bool true) ∧ Below w.heap.size w w' := by
  have e1 := h1.len
  have e2 := h2.len
  by_cases hl : bs = []
  · subst hl
    have e1' : n1 = 0 := e1
    have e2' : n2 = 0 := e2
    subst e1' e2'
    clear e1 e2 h1 h2
    go_enter Tryz.func92, Tryz.ntmps92
    go_wp2
    go_loopw [5] (fun i wr => i = .int .i64 0 ∧ wr = w) (fun _ _ => 0)
    case atStart => exact ⟨rfl, rfl⟩
    case round =>
      obtain ⟨rfl, rfl⟩ := hrel
      go_wp2
      go_ret
      exact ⟨rfl, Below.refl _ _⟩
  · obtain ⟨g1, o1, rfl, k1⟩ := h1.cells hl
    obtain ⟨g2, o2, rfl, k2⟩ := h2.cells hl
    have hnn : n2 = n1 := by omega
    subst hnn
    have HL : Hid (n2 = bs.length) := e2
    have HK1 : Hid (∀ j (h : j < bs.length), at3 w g1 (o1 + j * 3) bs[j]) := k1
    have HK2 : Hid (∀ j (h : j < bs.length), at3 w g2 (o2 + j * 3) bs[j]) := k2
    have hcp1 := h1.cap
    have hcp2 := h2.cap
    clear e1 e2 h1 h2 k1 k2
    go_enter Tryz.func92, Tryz.ntmps92
    go_wp2
    go_loopw [5] (fun i wr => ∃ k : Nat, k ≤ n2 ∧ i = .int .i64 k ∧ Below w.heap.size w wr) (fun i _ => n2 - (intOf i).toNat)
    case atStart => exact ⟨0, Nat.zero_le _, rfl, Below.refl _ _⟩
    case round =>
      obtain ⟨k, hk, rfl, hb⟩ := hrel
      by_cases hlt : k < n2
      · have hkl : k < bs.length := by have := HL.out; omega
        have y1 := HK1.out k hkl
        have y2 := HK2.out k hkl
        have z1 := World.block_lt_of_cell? w _ y1.c0
        have z2 := World.block_lt_of_cell? w _ y2.c0
        have hS0 : wr.cell? ⟨g1, o1 + k * 3, none⟩ = some (.bool bs[k].e) ∧ wr.cell? ⟨g1, o1 + k * 3 + 1, none⟩ = some (.int .u32 bs[k].m) ∧ wr.cell? ⟨g1, o1 + k * 3 + 2, none⟩ = some (.int .u32 bs[k].k) ∧ wr.cell? ⟨g2, o2 + k * 3, none⟩ = some (.bool bs[k].e) ∧ wr.cell? ⟨g2, o2 + k * 3 + 1, none⟩ = some (.int .u32 bs[k].m) ∧ wr.cell? ⟨g2, o2 + k * 3 + 2, none⟩ = some (.int .u32 bs[k].k) ∧ g1 < wr.heap.size ∧ g2 < wr.heap.size := ⟨(hb.cell (by exact z1)).trans y1.c0, (hb.cell (by exact z1)).trans y1.c1, (hb.cell (by exact z1)).trans y1.c2, (hb.cell (by exact z2)).trans y2.c0, (hb.cell (by exact z2)).trans y2.c1, (hb.cell (by exact z2)).trans y2.c2, Nat.lt_of_lt_of_le z1 hb.size, Nat.lt_of_lt_of_le z2 hb.size⟩
        have HB : Hid (Below w.heap.size w wr) := hb
        clear hb y1 y2 z1 z2
        generalize hBe : bs[k].e = ge at *
        generalize hBm : bs[k].m = gm at *
        generalize hBk : bs[k].k = gk at *
        clear hBe hBm hBk
        go_wp2
        go_region_held3 (fun W => W.cell? ⟨g1, o1 + k * 3, none⟩ = some (.bool ge) ∧ W.cell? ⟨g1, o1 + k * 3 + 1, none⟩ = some (.int .u32 gm) ∧ W.cell? ⟨g1, o1 + k * 3 + 2, none⟩ = some (.int .u32 gk) ∧ W.cell? ⟨g2, o2 + k * 3, none⟩ = some (.bool ge) ∧ W.cell? ⟨g2, o2 + k * 3 + 1, none⟩ = some (.int .u32 gm) ∧ W.cell? ⟨g2, o2 + k * 3 + 2, none⟩ = some (.int .u32 gk) ∧ g1 < W.heap.size ∧ g2 < W.heap.size) (first | exact invFilter_be _ _ _ _ _ _ _ _ _ hS0 (Below.refl _ _).drew | exact invFilter_be _ _ _ _ _ _ _ _ _ (by assumption) (by assumption)) (first | (go_at_call 149; refine (eqFilter_same _ ge gm gk).mono ?_; rintro o w5 ⟨rfl, hb5⟩))
        go_wp2
        go_roundw
        case rel => exact ⟨k + 1, by omega, by go_num, HB.out.trans (((Below.refl _ _).drew.trans hb5).mono HB.out.size)⟩
        case measure => simp [intOf]; omega
      · go_wp2
        go_ret
        exact ⟨rfl, hb⟩
end Go.Proofs.YtaamahohdnbpiaaGreat
namespace Go.Proofs.YtaamahohdnbpiaaGreat
open Go.RowKit
theorem invFrame_be (W W' : World) (g1 g2 A B : Nat) (ge : Bool) (gi : Nat) (gr : Bool) (gd : Int) (p1 p2 : Option Addr) (m1 q1 m2 q2 : Nat) (L : List Nat) (h : W.cell? ⟨g1, A, none⟩ = some (.bool ge) ∧ W.cell? ⟨g1, A + 1, none⟩ = some (.int .u32 (gi : Int)) ∧ W.cell? ⟨g1, A + 2, none⟩ = some (.bool gr) ∧ W.cell? ⟨g1, A + 3, none⟩ = some (.int .i64 gd) ∧ W.cell? ⟨g1, A + 4, none⟩ = some (.slice p1 m1 q1) ∧ W.cell? ⟨g2, B, none⟩ = some (.bool ge) ∧ W.cell? ⟨g2, B + 1, none⟩ = some (.int .u32 (gi : Int)) ∧ W.cell? ⟨g2, B + 2, none⟩ = some (.bool gr) ∧ W.cell? ⟨g2, B + 3, none⟩ = some (.int .i64 gd) ∧ W.cell? ⟨g2, B + 4, none⟩ = some (.slice p2 m2 q2) ∧ isBytes W p1 m1 q1 L ∧ isBytes W p2 m2 q2 L ∧ g1 < W.heap.size ∧ g2 < W.heap.size) (hb : Below W.heap.size W W') : (fun W => W.cell? ⟨g1, A, none⟩ = some (.bool ge) ∧ W.cell? ⟨g1, A + 1, none⟩ = some (.int .u32 (gi : Int)) ∧ W.cell? ⟨g1, A + 2, none⟩ = some (.bool gr) ∧ W.cell? ⟨g1, A + 3, none⟩ = some (.int .i64 gd) ∧ W.cell? ⟨g1, A + 4, none⟩ = some (.slice p1 m1 q1) ∧ W.cell? ⟨g2, B, none⟩ = some (.bool ge) ∧ W.cell? ⟨g2, B + 1, none⟩ = some (.int .u32 (gi : Int)) ∧ W.cell? ⟨g2, B + 2, none⟩ = some (.bool gr) ∧ W.cell? ⟨g2, B + 3, none⟩ = some (.int .i64 gd) ∧ W.cell? ⟨g2, B + 4, none⟩ = some (.slice p2 m2 q2) ∧ isBytes W p1 m1 q1 L ∧ isBytes W p2 m2 q2 L ∧ g1 < W.heap.size ∧ g2 < W.heap.size) W' := by
  obtain ⟨a0, a1, a2, a3, a4, b0, b1, b2, b3, b4, d1, d2, s1, s2⟩ := h
  exact ⟨(hb.cell (by exact s1)).trans a0, (hb.cell (by exact s1)).trans a1, (hb.cell (by exact s1)).trans a2, (hb.cell (by exact s1)).trans a3, (hb.cell (by exact s1)).trans a4, (hb.cell (by exact s2)).trans b0, (hb.cell (by exact s2)).trans b1, (hb.cell (by exact s2)).trans b2, (hb.cell (by exact s2)).trans b3, (hb.cell (by exact s2)).trans b4, d1.below hb, d2.below hb, Nat.lt_of_lt_of_le s1 hb.size, Nat.lt_of_lt_of_le s2 hb.size⟩
theorem invFrame_dat {W : World} {g1 g2 A B : Nat} {ge : Bool} {gi : Nat} {gr : Bool} {gd : Int} {p1 p2 : Option Addr} {m1 q1 m2 q2 : Nat} {L : List Nat} (h : W.cell? ⟨g1, A, none⟩ = some (.bool ge) ∧ W.cell? ⟨g1, A + 1, none⟩ = some (.int .u32 (gi : Int)) ∧ W.cell? ⟨g1, A + 2, none⟩ = some (.bool gr) ∧ W.cell? ⟨g1, A + 3, none⟩ = some (.int .i64 gd) ∧ W.cell? ⟨g1, A + 4, none⟩ = some (.slice p1 m1 q1) ∧ W.cell? ⟨g2, B, none⟩ = some (.bool ge) ∧ W.cell? ⟨g2, B + 1, none⟩ = some (.int .u32 (gi : Int)) ∧ W.cell? ⟨g2, B + 2, none⟩ = some (.bool gr) ∧ W.cell? ⟨g2, B + 3, none⟩ = some (.int .i64 gd) ∧ W.cell? ⟨g2, B + 4, none⟩ = some (.slice p2 m2 q2) ∧ isBytes W p1 m1 q1 L ∧ isBytes W p2 m2 q2 L ∧ g1 < W.heap.size ∧ g2 < W.heap.size) : isBytes W p1 m1 q1 L ∧ isBytes W p2 m2 q2 L := ⟨h.2.2.2.2.2.2.2.2.2.2.1, h.2.2.2.2.2.2.2.2.2.2.2.1⟩
set_option maxHeartbeats 4000000 in
set_option maxRecDepth 20000 in
theorem eqFrameS_same (w : World) (a1 a2 : Option Addr) (n1 c1 n2 c2 : Nat) (bs : List R5) (h1 : isR5s w a1 n1 c1 bs) (h2 : isR5s w a2 n2 c2 bs) (hn : n1 ≤ 1048576) (hd : ∀ j (h : j < bs.length), bs[j].l.length ≤ 1048576) :
    Calls Tryz.prog 94 #[.slice a1 n1 c1, .slice a2 n2 c2] w fun o w' => o = .returned (.bool true) ∧ Below w.heap.size w w' := by
  have e1 := h1.len
  have e2 := h2.len
  by_cases hl : bs = []
  · subst hl
    have e1' : n1 = 0 := e1
    have e2' : n2 = 0 := e2
    subst e1' e2'
    clear e1 e2 h1 h2 hd
    go_enter Tryz.func94, Tryz.ntmps94
    go_wp2
    go_loopw [5] (fun i wr => i = .int .i64 0 ∧ wr = w) (fun _ _ => 0)
    case atStart => exact ⟨rfl, rfl⟩
    case round =>
      obtain ⟨rfl, rfl⟩ := hrel
      go_wp2
      go_ret
      exact ⟨rfl, Below.refl _ _⟩
  · obtain ⟨g1, o1, rfl, k1⟩ := h1.cells hl
    obtain ⟨g2, o2, rfl, k2⟩ := h2.cells hl
    have hnn : n2 = n1 := by omega
    subst hnn
    have HL : Hid (n2 = bs.length) := e2
    have HK1 : Hid (∀ j (h : j < bs.length), ∃ ao m c, at5 w g1 (o1 + j * 5) bs[j] ao m c) := k1
    have HK2 : Hid (∀ j (h : j < bs.length), ∃ ao m c, at5 w g2 (o2 + j * 5) bs[j] ao m c) := k2
    have hcp1 := h1.cap
    have hcp2 := h2.cap
    have HD0 : Hid (∀ j (h : j < bs.length), bs[j].l.length ≤ 1048576) := hd
    clear hd
    clear e1 e2 h1 h2 k1 k2
    go_enter Tryz.func94, Tryz.ntmps94
    go_wp2
    go_loopw [5] (fun i wr => ∃ k : Nat, k ≤ n2 ∧ i = .int .i64 k ∧ Below w.heap.size w wr) (fun i _ => n2 - (intOf i).toNat)
    case atStart => exact ⟨0, Nat.zero_le _, rfl, Below.refl _ _⟩
    case round =>
      obtain ⟨k, hk, rfl, hb⟩ := hrel
      by_cases hlt : k < n2
      · have hkl : k < bs.length := by have := HL.out; omega
        obtain ⟨p1, m1, q1, y1⟩ := HK1.out k hkl
        obtain ⟨p2, m2, q2, y2⟩ := HK2.out k hkl
        have z1 := World.block_lt_of_cell? w _ y1.c0
        have z2 := World.block_lt_of_cell? w _ y2.c0
        have hm : m1 ≤ 1048576 := by have := HD0.out k hkl; have := y1.dat.len; omega
        have hS0 : wr.cell? ⟨g1, o1 + k * 5, none⟩ = some (.bool bs[k].e) ∧ wr.cell? ⟨g1, o1 + k * 5 + 1, none⟩ = some (.int .u32 (bs[k].i : Int)) ∧ wr.cell? ⟨g1, o1 + k * 5 + 2, none⟩ = some (.bool bs[k].r) ∧ wr.cell? ⟨g1, o1 + k * 5 + 3, none⟩ = some (.int .i64 bs[k].d) ∧ wr.cell? ⟨g1, o1 + k * 5 + 4, none⟩ = some (.slice p1 m1 q1) ∧ wr.cell? ⟨g2, o2 + k * 5, none⟩ = some (.bool bs[k].e) ∧ wr.cell? ⟨g2, o2 + k * 5 + 1, none⟩ = some (.int .u32 (bs[k].i : Int)) ∧ wr.cell? ⟨g2, o2 + k * 5 + 2, none⟩ = some (.bool bs[k].r) ∧ wr.cell? ⟨g2, o2 + k * 5 + 3, none⟩ = some (.int .i64 bs[k].d) ∧ wr.cell? ⟨g2, o2 + k * 5 + 4, none⟩ = some (.slice p2 m2 q2) ∧ isBytes wr p1 m1 q1 bs[k].l ∧ isBytes wr p2 m2 q2 bs[k].l ∧ g1 < wr.heap.size ∧ g2 < wr.heap.size := ⟨(hb.cell (by exact z1)).trans y1.c0, (hb.cell (by exact z1)).trans y1.c1, (hb.cell (by exact z1)).trans y1.c2, (hb.cell (by exact z1)).trans y1.c3, (hb.cell (by exact z1)).trans y1.cs, (hb.cell (by exact z2)).trans y2.c0, (hb.cell (by exact z2)).trans y2.c1, (hb.cell (by exact z2)).trans y2.c2, (hb.cell (by exact z2)).trans y2.c3, (hb.cell (by exact z2)).trans y2.cs, y1.dat.below hb, y2.dat.below hb, Nat.lt_of_lt_of_le z1 hb.size, Nat.lt_of_lt_of_le z2 hb.size⟩
        have HB : Hid (Below w.heap.size w wr) := hb
        clear hb y1 y2 z1 z2
        generalize hBe : bs[k].e = ge at *
        generalize hBi : bs[k].i = gi at *
        generalize hBr : bs[k].r = gr at *
        generalize hBd : bs[k].d = gd at *
        generalize hBl : bs[k].l = L at *
        clear hBe hBi hBr hBd hBl
        go_wp2
        go_region_held3 (fun W => W.cell? ⟨g1, o1 + k * 5, none⟩ = some (.bool ge) ∧ W.cell? ⟨g1, o1 + k * 5 + 1, none⟩ = some (.int .u32 (gi : Int)) ∧ W.cell? ⟨g1, o1 + k * 5 + 2, none⟩ = some (.bool gr) ∧ W.cell? ⟨g1, o1 + k * 5 + 3, none⟩ = some (.int .i64 gd) ∧ W.cell? ⟨g1, o1 + k * 5 + 4, none⟩ = some (.slice p1 m1 q1) ∧ W.cell? ⟨g2, o2 + k * 5, none⟩ = some (.bool ge) ∧ W.cell? ⟨g2, o2 + k * 5 + 1, none⟩ = some (.int .u32 (gi : Int)) ∧ W.cell? ⟨g2, o2 + k * 5 + 2, none⟩ = some (.bool gr) ∧ W.cell? ⟨g2, o2 + k * 5 + 3, none⟩ = some (.int .i64 gd) ∧ W.cell? ⟨g2, o2 + k * 5 + 4, none⟩ = some (.slice p2 m2 q2) ∧ isBytes W p1 m1 q1 L ∧ isBytes W p2 m2 q2 L ∧ g1 < W.heap.size ∧ g2 < W.heap.size) (first | exact invFrame_be _ _ _ _ _ _ _ _ _ _ _ _ _ _ _ _ _ hS0 (Below.refl _ _).drew | exact invFrame_be _ _ _ _ _ _ _ _ _ _ _ _ _ _ _ _ _ (by assumption) (by assumption)) (first | (go_at_call 49; refine (eqFrame_same _ ge gi gr gd p1 m1 q1 L (invFrame_dat (by assumption)).1 p2 m2 q2 (invFrame_dat (by assumption)).2 hm).mono ?_; rintro o w5 ⟨rfl, hb5⟩))
        go_wp2
        go_roundw
        case rel => exact ⟨k + 1, by omega, by go_num, HB.out.trans (((Below.refl _ _).drew.trans hb5).mono HB.out.size)⟩
        case measure => simp [intOf]; omega
      · go_wp2
        go_ret
        exact ⟨rfl, hb⟩
end Go.Proofs.YtaamahohdnbpiaaGreat
namespace Go.Proofs.YtaamahohdnbpiaaGreat
open Go.RowKit
theorem invBox_be (W W' : World) (g1 g2 A B : Nat) (gx : Int) (gy : Int) (gz : Int) (ge : Bool) (gi : Nat) (gr : Bool) (gd : Int) (p1 p2 : Option Addr) (m1 q1 m2 q2 : Nat) (L : List Nat) (h : W.cell? ⟨g1, A, none⟩ = some (.int .i64 gx) ∧ W.cell? ⟨g1, A + 1, none⟩ = some (.int .i64 gy) ∧ W.cell? ⟨g1, A + 2, none⟩ = some (.int .i64 gz) ∧ W.cell? ⟨g1, A + 3, none⟩ = some (.bool ge) ∧ W.cell? ⟨g1, A + 4, none⟩ = some (.int .u32 (gi : Int)) ∧ W.cell? ⟨g1, A + 5, none⟩ = some (.bool gr) ∧ W.cell? ⟨g1, A + 6, none⟩ = some (.int .i64 gd) ∧ W.cell? ⟨g1, A + 7, none⟩ = some (.slice p1 m1 q1) ∧ W.cell? ⟨g2, B, none⟩ = some (.int .i64 gx) ∧ W.cell? ⟨g2, B + 1, none⟩ = some (.int .i64 gy) ∧ W.cell? ⟨g2, B + 2, none⟩ = some (.int .i64 gz) ∧ W.cell? ⟨g2, B + 3, none⟩ = some (.bool ge) ∧ W.cell? ⟨g2, B + 4, none⟩ = some (.int .u32 (gi : Int)) ∧ W.cell? ⟨g2, B + 5, none⟩ = some (.bool gr) ∧ W.cell? ⟨g2, B + 6, none⟩ = some (.int .i64 gd) ∧ W.cell? ⟨g2, B + 7, none⟩ = some (.slice p2 m2 q2) ∧ isBytes W p1 m1 q1 L ∧ isBytes W p2 m2 q2 L ∧ g1 < W.heap.size ∧ g2 < W.heap.size) (hb : Below W.heap.size W W') : (fun W => W.cell? ⟨g1, A, none⟩ = some (.int .i64 gx) ∧ W.cell? ⟨g1, A + 1, none⟩ = some (.int .i64 gy) ∧ W.cell? ⟨g1, A + 2, none⟩ = some (.int .i64 gz) ∧ W.cell? ⟨g1, A + 3, none⟩ = some (.bool ge) ∧ W.cell? ⟨g1, A + 4, none⟩ = some (.int .u32 (gi : Int)) ∧ W.cell? ⟨g1, A + 5, none⟩ = some (.bool gr) ∧ W.cell? ⟨g1, A + 6, none⟩ = some (.int .i64 gd) ∧ W.cell? ⟨g1, A + 7, none⟩ = some (.slice p1 m1 q1) ∧ W.cell? ⟨g2, B, none⟩ = some (.int .i64 gx) ∧ W.cell? ⟨g2, B + 1, none⟩ = some (.int .i64 gy) ∧ W.cell? ⟨g2, B + 2, none⟩ = some (.int .i64 gz) ∧ W.cell? ⟨g2, B + 3, none⟩ = some (.bool ge) ∧ W.cell? ⟨g2, B + 4, none⟩ = some (.int .u32 (gi : Int)) ∧ W.cell? ⟨g2, B + 5, none⟩ = some (.bool gr) ∧ W.cell? ⟨g2, B + 6, none⟩ = some (.int .i64 gd) ∧ W.cell? ⟨g2, B + 7, none⟩ = some (.slice p2 m2 q2) ∧ isBytes W p1 m1 q1 L ∧ isBytes W p2 m2 q2 L ∧ g1 < W.heap.size ∧ g2 < W.heap.size) W' := by
  obtain ⟨a0, a1, a2, a3, a4, a5, a6, a7, b0, b1, b2, b3, b4, b5, b6, b7, d1, d2, s1, s2⟩ := h
  exact ⟨(hb.cell (by exact s1)).trans a0, (hb.cell (by exact s1)).trans a1, (hb.cell (by exact s1)).trans a2, (hb.cell (by exact s1)).trans a3, (hb.cell (by exact s1)).trans a4, (hb.cell (by exact s1)).trans a5, (hb.cell (by exact s1)).trans a6, (hb.cell (by exact s1)).trans a7, (hb.cell (by exact s2)).trans b0, (hb.cell (by exact s2)).trans b1, (hb.cell (by exact s2)).trans b2, (hb.cell (by exact s2)).trans b3, (hb.cell (by exact s2)).trans b4, (hb.cell (by exact s2)).trans b5, (hb.cell (by exact s2)).trans b6, (hb.cell (by exact s2)).trans b7, d1.below hb, d2.below hb, Nat.lt_of_lt_of_le s1 hb.size, Nat.lt_of_lt_of_le s2 hb.size⟩
theorem invBox_dat {W : World} {g1 g2 A B : Nat} {gx : Int} {gy : Int} {gz : Int} {ge : Bool} {gi : Nat} {gr : Bool} {gd : Int} {p1 p2 : Option Addr} {m1 q1 m2 q2 : Nat} {L : List Nat} (h : W.cell? ⟨g1, A, none⟩ = some (.int .i64 gx) ∧ W.cell? ⟨g1, A + 1, none⟩ = some (.int .i64 gy) ∧ W.cell? ⟨g1, A + 2, none⟩ = some (.int .i64 gz) ∧ W.cell? ⟨g1, A + 3, none⟩ = some (.bool ge) ∧ W.cell? ⟨g1, A + 4, none⟩ = some (.int .u32 (gi : Int)) ∧ W.cell? ⟨g1, A + 5, none⟩ = some (.bool gr) ∧ W.cell? ⟨g1, A + 6, none⟩ = some (.int .i64 gd) ∧ W.cell? ⟨g1, A + 7, none⟩ = some (.slice p1 m1 q1) ∧ W.cell? ⟨g2, B, none⟩ = some (.int .i64 gx) ∧ W.cell? ⟨g2, B + 1, none⟩ = some (.int .i64 gy) ∧ W.cell? ⟨g2, B + 2, none⟩ = some (.int .i64 gz) ∧ W.cell? ⟨g2, B + 3, none⟩ = some (.bool ge) ∧ W.cell? ⟨g2, B + 4, none⟩ = some (.int .u32 (gi : Int)) ∧ W.cell? ⟨g2, B + 5, none⟩ = some (.bool gr) ∧ W.cell? ⟨g2, B + 6, none⟩ = some (.int .i64 gd) ∧ W.cell? ⟨g2, B + 7, none⟩ = some (.slice p2 m2 q2) ∧ isBytes W p1 m1 q1 L ∧ isBytes W p2 m2 q2 L ∧ g1 < W.heap.size ∧ g2 < W.heap.size) : isBytes W p1 m1 q1 L ∧ isBytes W p2 m2 q2 L := ⟨h.2.2.2.2.2.2.2.2.2.2.2.2.2.2.2.2.1, h.2.2.2.2.2.2.2.2.2.2.2.2.2.2.2.2.2.1⟩
set_option maxHeartbeats 4000000 in
set_option maxRecDepth 20000 in
theorem eqBoxS_same (w : World) (a1 a2 : Option Addr) (n1 c1 n2 c2 : Nat) (bs : List R8) (h1 : isR8s w a1 n1 c1 bs) (h2 : isR8s w a2 n2 c2 bs) (hn : n1 ≤ 1048576) (hd : ∀ j (h : j < bs.length), bs[j].l.length ≤ 1048576) :
    Calls Tryz.prog 93 #[.slice a1 n1 c1, .slice a2 n2 c2] w fun o w' => o = .returned (.bool true) ∧ Below w.heap.size w w' := by
  have e1 := h1.len
  have e2 := h2.len
  by_cases hl : bs = []
  · subst hl
    have e1' : n1 = 0 := e1
    have e2' : n2 = 0 := e2
    subst e1' e2'
    clear e1 e2 h1 h2 hd
    go_enter Tryz.func93, Tryz.ntmps93
    go_wp2
    go_loopw [5] (fun i wr => i = .int .i64 0 ∧ wr = w) (fun _ _ => 0)
    case atStart => exact ⟨rfl, rfl⟩
    case round =>
      obtain ⟨rfl, rfl⟩ := hrel
      go_wp2
      go_ret
      exact ⟨rfl, Below.refl _ _⟩
  · obtain ⟨g1, o1, rfl, k1⟩ := h1.cells hl
    obtain ⟨g2, o2, rfl, k2⟩ := h2.cells hl
    have hnn : n2 = n1 := by omega
    subst hnn
    have HL : Hid (n2 = bs.length) := e2
    have HK1 : Hid (∀ j (h : j < bs.length), ∃ ao m c, at8 w g1 (o1 + j * 8) bs[j] ao m c) := k1
    have HK2 : Hid (∀ j (h : j < bs.length), ∃ ao m c, at8 w g2 (o2 + j * 8) bs[j] ao m c) := k2
    have hcp1 := h1.cap
    have hcp2 := h2.cap
    have HD0 : Hid (∀ j (h : j < bs.length), bs[j].l.length ≤ 1048576) := hd
    clear hd
    clear e1 e2 h1 h2 k1 k2
    go_enter Tryz.func93, Tryz.ntmps93
    go_wp2
    go_loopw [5] (fun i wr => ∃ k : Nat, k ≤ n2 ∧ i = .int .i64 k ∧ Below w.heap.size w wr) (fun i _ => n2 - (intOf i).toNat)
    case atStart => exact ⟨0, Nat.zero_le _, rfl, Below.refl _ _⟩
    case round =>
      obtain ⟨k, hk, rfl, hb⟩ := hrel
      by_cases hlt : k < n2
      · have hkl : k < bs.length := by have := HL.out; omega
        obtain ⟨p1, m1, q1, y1⟩ := HK1.out k hkl
        obtain ⟨p2, m2, q2, y2⟩ := HK2.out k hkl
        have z1 := World.block_lt_of_cell? w _ y1.c0
        have z2 := World.block_lt_of_cell? w _ y2.c0
        have hm : m1 ≤ 1048576 := by have := HD0.out k hkl; have := y1.dat.len; omega
        have hS0 : wr.cell? ⟨g1, o1 + k * 8, none⟩ = some (.int .i64 bs[k].x) ∧ wr.cell? ⟨g1, o1 + k * 8 + 1, none⟩ = some (.int .i64 bs[k].y) ∧ wr.cell? ⟨g1, o1 + k * 8 + 2, none⟩ = some (.int .i64 bs[k].z) ∧ wr.cell? ⟨g1, o1 + k * 8 + 3, none⟩ = some (.bool bs[k].e) ∧ wr.cell? ⟨g1, o1 + k * 8 + 4, none⟩ = some (.int .u32 (bs[k].i : Int)) ∧ wr.cell? ⟨g1, o1 + k * 8 + 5, none⟩ = some (.bool bs[k].r) ∧ wr.cell? ⟨g1, o1 + k * 8 + 6, none⟩ = some (.int .i64 bs[k].d) ∧ wr.cell? ⟨g1, o1 + k * 8 + 7, none⟩ = some (.slice p1 m1 q1) ∧ wr.cell? ⟨g2, o2 + k * 8, none⟩ = some (.int .i64 bs[k].x) ∧ wr.cell? ⟨g2, o2 + k * 8 + 1, none⟩ = some (.int .i64 bs[k].y) ∧ wr.cell? ⟨g2, o2 + k * 8 + 2, none⟩ = some (.int .i64 bs[k].z) ∧ wr.cell? ⟨g2, o2 + k * 8 + 3, none⟩ = some (.bool bs[k].e) ∧ wr.cell? ⟨g2, o2 + k * 8 + 4, none⟩ = some (.int .u32 (bs[k].i : Int)) ∧ wr.cell? ⟨g2, o2 + k * 8 + 5, none⟩ = some (.bool bs[k].r) ∧ wr.cell? ⟨g2, o2 + k * 8 + 6, none⟩ = some (.int .i64 bs[k].d) ∧ wr.cell? ⟨g2, o2 + k * 8 + 7, none⟩ = some (.slice p2 m2 q2) ∧ isBytes wr p1 m1 q1 bs[k].l ∧ isBytes wr p2 m2 q2 bs[k].l ∧ g1 < wr.heap.size ∧ g2 < wr.heap.size := ⟨(hb.cell (by exact z1)).trans y1.c0, (hb.cell (by exact z1)).trans y1.c1, (hb.cell (by exact z1)).trans y1.c2, (hb.cell (by exact z1)).trans y1.c3, (hb.cell (by exact z1)).trans y1.c4, (hb.cell (by exact z1)).trans y1.c5, (hb.cell (by exact z1)).trans y1.c6, (hb.cell (by exact z1)).trans y1.cs, (hb.cell (by exact z2)).trans y2.c0, (hb.cell (by exact z2)).trans y2.c1, (hb.cell (by exact z2)).trans y2.c2, (hb.cell (by exact z2)).trans y2.c3, (hb.cell (by exact z2)).trans y2.c4, (hb.cell (by exact z2)).trans y2.c5, (hb.cell (by exact z2)).trans y2.c6, (hb.cell (by exact z2)).trans y2.cs, y1.dat.below hb, y2.dat.below hb, Nat.lt_of_lt_of_le z1 hb.size, Nat.lt_of_lt_of_le z2 hb.size⟩
        have HB : Hid (Below w.heap.size w wr) := hb
        clear hb y1 y2 z1 z2
        generalize hBx : bs[k].x = gx at *
        generalize hBy : bs[k].y = gy at *
        generalize hBz : bs[k].z = gz at *
        generalize hBe : bs[k].e = ge at *
        generalize hBi : bs[k].i = gi at *
        generalize hBr : bs[k].r = gr at *
        generalize hBd : bs[k].d = gd at *
        generalize hBl : bs[k].l = L at *
        clear hBx hBy hBz hBe hBi hBr hBd hBl
        go_wp2
        go_region_held3 (fun W => W.cell? ⟨g1, o1 + k * 8, none⟩ = some (.int .i64 gx) ∧ W.cell? ⟨g1, o1 + k * 8 + 1, none⟩ = some (.int .i64 gy) ∧ W.cell? ⟨g1, o1 + k * 8 + 2, none⟩ = some (.int .i64 gz) ∧ W.cell? ⟨g1, o1 + k * 8 + 3, none⟩ = some (.bool ge) ∧ W.cell? ⟨g1, o1 + k * 8 + 4, none⟩ = some (.int .u32 (gi : Int)) ∧ W.cell? ⟨g1, o1 + k * 8 + 5, none⟩ = some (.bool gr) ∧ W.cell? ⟨g1, o1 + k * 8 + 6, none⟩ = some (.int .i64 gd) ∧ W.cell? ⟨g1, o1 + k * 8 + 7, none⟩ = some (.slice p1 m1 q1) ∧ W.cell? ⟨g2, o2 + k * 8, none⟩ = some (.int .i64 gx) ∧ W.cell? ⟨g2, o2 + k * 8 + 1, none⟩ = some (.int .i64 gy) ∧ W.cell? ⟨g2, o2 + k * 8 + 2, none⟩ = some (.int .i64 gz) ∧ W.cell? ⟨g2, o2 + k * 8 + 3, none⟩ = some (.bool ge) ∧ W.cell? ⟨g2, o2 + k * 8 + 4, none⟩ = some (.int .u32 (gi : Int)) ∧ W.cell? ⟨g2, o2 + k * 8 + 5, none⟩ = some (.bool gr) ∧ W.cell? ⟨g2, o2 + k * 8 + 6, none⟩ = some (.int .i64 gd) ∧ W.cell? ⟨g2, o2 + k * 8 + 7, none⟩ = some (.slice p2 m2 q2) ∧ isBytes W p1 m1 q1 L ∧ isBytes W p2 m2 q2 L ∧ g1 < W.heap.size ∧ g2 < W.heap.size) (first | exact invBox_be _ _ _ _ _ _ _ _ _ _ _ _ _ _ _ _ _ _ _ _ hS0 (Below.refl _ _).drew | exact invBox_be _ _ _ _ _ _ _ _ _ _ _ _ _ _ _ _ _ _ _ _ (by assumption) (by assumption)) (first | (go_at_call 150; refine (eqBox_same _ gx gy gz ge gi gr gd p1 m1 q1 L (invBox_dat (by assumption)).1 p2 m2 q2 (invBox_dat (by assumption)).2 hm).mono ?_; rintro o w5 ⟨rfl, hb5⟩))
        go_wp2
        go_roundw
        case rel => exact ⟨k + 1, by omega, by go_num, HB.out.trans (((Below.refl _ _).drew.trans hb5).mono HB.out.size)⟩
        case measure => simp [intOf]; omega
      · go_wp2
        go_ret
        exact ⟨rfl, hb⟩
end Go.Proofs.YtaamahohdnbpiaaGreat
namespace Go.Proofs.YtaamahohdnbpiaaGreat
open Go.RowKit
theorem invEvent_be (W W' : World) (g1 g2 A B : Nat) (gx : Int) (gy : Int) (gz : Int) (ge : Bool) (gi : Nat) (gr : Bool) (gd : Int) (p1 p2 : Option Addr) (m1 q1 m2 q2 : Nat) (L : List Nat) (h : W.cell? ⟨g1, A, none⟩ = some (.int .i64 gx) ∧ W.cell? ⟨g1, A + 1, none⟩ = some (.int .i64 gy) ∧ W.cell? ⟨g1, A + 2, none⟩ = some (.int .i64 gz) ∧ W.cell? ⟨g1, A + 3, none⟩ = some (.bool ge) ∧ W.cell? ⟨g1, A + 4, none⟩ = some (.int .u32 (gi : Int)) ∧ W.cell? ⟨g1, A + 5, none⟩ = some (.bool gr) ∧ W.cell? ⟨g1, A + 6, none⟩ = some (.int .i64 gd) ∧ W.cell? ⟨g1, A + 7, none⟩ = some (.slice p1 m1 q1) ∧ W.cell? ⟨g2, B, none⟩ = some (.int .i64 gx) ∧ W.cell? ⟨g2, B + 1, none⟩ = some (.int .i64 gy) ∧ W.cell? ⟨g2, B + 2, none⟩ = some (.int .i64 gz) ∧ W.cell? ⟨g2, B + 3, none⟩ = some (.bool ge) ∧ W.cell? ⟨g2, B + 4, none⟩ = some (.int .u32 (gi : Int)) ∧ W.cell? ⟨g2, B + 5, none⟩ = some (.bool gr) ∧ W.cell? ⟨g2, B + 6, none⟩ = some (.int .i64 gd) ∧ W.cell? ⟨g2, B + 7, none⟩ = some (.slice p2 m2 q2) ∧ isBytes W p1 m1 q1 L ∧ isBytes W p2 m2 q2 L ∧ g1 < W.heap.size ∧ g2 < W.heap.size) (hb : Below W.heap.size W W') : (fun W => W.cell? ⟨g1, A, none⟩ = some (.int .i64 gx) ∧ W.cell? ⟨g1, A + 1, none⟩ = some (.int .i64 gy) ∧ W.cell? ⟨g1, A + 2, none⟩ = some (.int .i64 gz) ∧ W.cell? ⟨g1, A + 3, none⟩ = some (.bool ge) ∧ W.cell? ⟨g1, A + 4, none⟩ = some (.int .u32 (gi : Int)) ∧ W.cell? ⟨g1, A + 5, none⟩ = some (.bool gr) ∧ W.cell? ⟨g1, A + 6, none⟩ = some (.int .i64 gd) ∧ W.cell? ⟨g1, A + 7, none⟩ = some (.slice p1 m1 q1) ∧ W.cell? ⟨g2, B, none⟩ = some (.int .i64 gx) ∧ W.cell? ⟨g2, B + 1, none⟩ = some (.int .i64 gy) ∧ W.cell? ⟨g2, B + 2, none⟩ = some (.int .i64 gz) ∧ W.cell? ⟨g2, B + 3, none⟩ = some (.bool ge) ∧ W.cell? ⟨g2, B + 4, none⟩ = some (.int .u32 (gi : Int)) ∧ W.cell? ⟨g2, B + 5, none⟩ = some (.bool gr) ∧ W.cell? ⟨g2, B + 6, none⟩ = some (.int .i64 gd) ∧ W.cell? ⟨g2, B + 7, none⟩ = some (.slice p2 m2 q2) ∧ isBytes W p1 m1 q1 L ∧ isBytes W p2 m2 q2 L ∧ g1 < W.heap.size ∧ g2 < W.heap.size) W' := by
  obtain ⟨a0, a1, a2, a3, a4, a5, a6, a7, b0, b1, b2, b3, b4, b5, b6, b7, d1, d2, s1, s2⟩ := h
  exact ⟨(hb.cell (by exact s1)).trans a0, (hb.cell (by exact s1)).trans a1, (hb.cell (by exact s1)).trans a2, (hb.cell (by exact s1)).trans a3, (hb.cell (by exact s1)).trans a4, (hb.cell (by exact s1)).trans a5, (hb.cell (by exact s1)).trans a6, (hb.cell (by exact s1)).trans a7, (hb.cell (by exact s2)).trans b0, (hb.cell (by exact s2)).trans b1, (hb.cell (by exact s2)).trans b2, (hb.cell (by exact s2)).trans b3, (hb.cell (by exact s2)).trans b4, (hb.cell (by exact s2)).trans b5, (hb.cell (by exact s2)).trans b6, (hb.cell (by exact s2)).trans b7, d1.below hb, d2.below hb, Nat.lt_of_lt_of_le s1 hb.size, Nat.lt_of_lt_of_le s2 hb.size⟩
theorem invEvent_dat {W : World} {g1 g2 A B : Nat} {gx : Int} {gy : Int} {gz : Int} {ge : Bool} {gi : Nat} {gr : Bool} {gd : Int} {p1 p2 : Option Addr} {m1 q1 m2 q2 : Nat} {L : List Nat} (h : W.cell? ⟨g1, A, none⟩ = some (.int .i64 gx) ∧ W.cell? ⟨g1, A + 1, none⟩ = some (.int .i64 gy) ∧ W.cell? ⟨g1, A + 2, none⟩ = some (.int .i64 gz) ∧ W.cell? ⟨g1, A + 3, none⟩ = some (.bool ge) ∧ W.cell? ⟨g1, A + 4, none⟩ = some (.int .u32 (gi : Int)) ∧ W.cell? ⟨g1, A + 5, none⟩ = some (.bool gr) ∧ W.cell? ⟨g1, A + 6, none⟩ = some (.int .i64 gd) ∧ W.cell? ⟨g1, A + 7, none⟩ = some (.slice p1 m1 q1) ∧ W.cell? ⟨g2, B, none⟩ = some (.int .i64 gx) ∧ W.cell? ⟨g2, B + 1, none⟩ = some (.int .i64 gy) ∧ W.cell? ⟨g2, B + 2, none⟩ = some (.int .i64 gz) ∧ W.cell? ⟨g2, B + 3, none⟩ = some (.bool ge) ∧ W.cell? ⟨g2, B + 4, none⟩ = some (.int .u32 (gi : Int)) ∧ W.cell? ⟨g2, B + 5, none⟩ = some (.bool gr) ∧ W.cell? ⟨g2, B + 6, none⟩ = some (.int .i64 gd) ∧ W.cell? ⟨g2, B + 7, none⟩ = some (.slice p2 m2 q2) ∧ isBytes W p1 m1 q1 L ∧ isBytes W p2 m2 q2 L ∧ g1 < W.heap.size ∧ g2 < W.heap.size) : isBytes W p1 m1 q1 L ∧ isBytes W p2 m2 q2 L := ⟨h.2.2.2.2.2.2.2.2.2.2.2.2.2.2.2.2.1, h.2.2.2.2.2.2.2.2.2.2.2.2.2.2.2.2.2.1⟩
set_option maxHeartbeats 4000000 in
set_option maxRecDepth 20000 in
theorem eqEventS_same (w : World) (a1 a2 : Option Addr) (n1 c1 n2 c2 : Nat) (bs : List R8) (h1 : isR8s w a1 n1 c1 bs) (h2 : isR8s w a2 n2 c2 bs) (hn : n1 ≤ 1048576) (hd : ∀ j (h : j < bs.length), bs[j].l.length ≤ 1048576) :
    Calls Tryz.prog 38 #[.slice a1 n1 c1, .slice a2 n2 c2] w fun o w' => o = .returned (.bool true) ∧ Below w.heap.size w w' := by
  have e1 := h1.len
  have e2 := h2.len
  by_cases hl : bs = []
  · subst hl
    have e1' : n1 = 0 := e1
    have e2' : n2 = 0 := e2
    subst e1' e2'
    clear e1 e2 h1 h2 hd
    go_enter Tryz.func38, Tryz.ntmps38
    go_wp2
    go_loopw [5] (fun i wr => i = .int .i64 0 ∧ wr = w) (fun _ _ => 0)
    case atStart => exact ⟨rfl, rfl⟩
    case round =>
      obtain ⟨rfl, rfl⟩ := hrel
      go_wp2
      go_ret
      exact ⟨rfl, Below.refl _ _⟩
  · obtain ⟨g1, o1, rfl, k1⟩ := h1.cells hl
    obtain ⟨g2, o2, rfl, k2⟩ := h2.cells hl
    have hnn : n2 = n1 := by omega
    subst hnn
    have HL : Hid (n2 = bs.length) := e2
    have HK1 : Hid (∀ j (h : j < bs.length), ∃ ao m c, at8 w g1 (o1 + j * 8) bs[j] ao m c) := k1
    have HK2 : Hid (∀ j (h : j < bs.length), ∃ ao m c, at8 w g2 (o2 + j * 8) bs[j] ao m c) := k2
    have hcp1 := h1.cap
    have hcp2 := h2.cap
    have HD0 : Hid (∀ j (h : j < bs.length), bs[j].l.length ≤ 1048576) := hd
    clear hd
    clear e1 e2 h1 h2 k1 k2
    go_enter Tryz.func38, Tryz.ntmps38
    go_wp2
    go_loopw [5] (fun i wr => ∃ k : Nat, k ≤ n2 ∧ i = .int .i64 k ∧ Below w.heap.size w wr) (fun i _ => n2 - (intOf i).toNat)
    case atStart => exact ⟨0, Nat.zero_le _, rfl, Below.refl _ _⟩
    case round =>
      obtain ⟨k, hk, rfl, hb⟩ := hrel
      by_cases hlt : k < n2
      · have hkl : k < bs.length := by have := HL.out; omega
        obtain ⟨p1, m1, q1, y1⟩ := HK1.out k hkl
        obtain ⟨p2, m2, q2, y2⟩ := HK2.out k hkl
        have z1 := World.block_lt_of_cell? w _ y1.c0
        have z2 := World.block_lt_of_cell? w _ y2.c0
        have hm : m1 ≤ 1048576 := by have := HD0.out k hkl; have := y1.dat.len; omega
        have hS0 : wr.cell? ⟨g1, o1 + k * 8, none⟩ = some (.int .i64 bs[k].x) ∧ wr.cell? ⟨g1, o1 + k * 8 + 1, none⟩ = some (.int .i64 bs[k].y) ∧ wr.cell? ⟨g1, o1 + k * 8 + 2, none⟩ = some (.int .i64 bs[k].z) ∧ wr.cell? ⟨g1, o1 + k * 8 + 3, none⟩ = some (.bool bs[k].e) ∧ wr.cell? ⟨g1, o1 + k * 8 + 4, none⟩ = some (.int .u32 (bs[k].i : Int)) ∧ wr.cell? ⟨g1, o1 + k * 8 + 5, none⟩ = some (.bool bs[k].r) ∧ wr.cell? ⟨g1, o1 + k * 8 + 6, none⟩ = some (.int .i64 bs[k].d) ∧ wr.cell? ⟨g1, o1 + k * 8 + 7, none⟩ = some (.slice p1 m1 q1) ∧ wr.cell? ⟨g2, o2 + k * 8, none⟩ = some (.int .i64 bs[k].x) ∧ wr.cell? ⟨g2, o2 + k * 8 + 1, none⟩ = some (.int .i64 bs[k].y) ∧ wr.cell? ⟨g2, o2 + k * 8 + 2, none⟩ = some (.int .i64 bs[k].z) ∧ wr.cell? ⟨g2, o2 + k * 8 + 3, none⟩ = some (.bool bs[k].e) ∧ wr.cell? ⟨g2, o2 + k * 8 + 4, none⟩ = some (.int .u32 (bs[k].i : Int)) ∧ wr.cell? ⟨g2, o2 + k * 8 + 5, none⟩ = some (.bool bs[k].r) ∧ wr.cell? ⟨g2, o2 + k * 8 + 6, none⟩ = some (.int .i64 bs[k].d) ∧ wr.cell? ⟨g2, o2 + k * 8 + 7, none⟩ = some (.slice p2 m2 q2) ∧ isBytes wr p1 m1 q1 bs[k].l ∧ isBytes wr p2 m2 q2 bs[k].l ∧ g1 < wr.heap.size ∧ g2 < wr.heap.size := ⟨(hb.cell (by exact z1)).trans y1.c0, (hb.cell (by exact z1)).trans y1.c1, (hb.cell (by exact z1)).trans y1.c2, (hb.cell (by exact z1)).trans y1.c3, (hb.cell (by exact z1)).trans y1.c4, (hb.cell (by exact z1)).trans y1.c5, (hb.cell (by exact z1)).trans y1.c6, (hb.cell (by exact z1)).trans y1.cs, (hb.cell (by exact z2)).trans y2.c0, (hb.cell (by exact z2)).trans y2.c1, (hb.cell (by exact z2)).trans y2.c2, (hb.cell (by exact z2)).trans y2.c3, (hb.cell (by exact z2)).trans y2.c4, (hb.cell (by exact z2)).trans y2.c5, (hb.cell (by exact z2)).trans y2.c6, (hb.cell (by exact z2)).trans y2.cs, y1.dat.below hb, y2.dat.below hb, Nat.lt_of_lt_of_le z1 hb.size, Nat.lt_of_lt_of_le z2 hb.size⟩
        have HB : Hid (Below w.heap.size w wr) := hb
        clear hb y1 y2 z1 z2
        generalize hBx : bs[k].x = gx at *
        generalize hBy : bs[k].y = gy at *
        generalize hBz : bs[k].z = gz at *
        generalize hBe : bs[k].e = ge at *
        generalize hBi : bs[k].i = gi at *
        generalize hBr : bs[k].r = gr at *
        generalize hBd : bs[k].d = gd at *
        generalize hBl : bs[k].l = L at *
        clear hBx hBy hBz hBe hBi hBr hBd hBl
        go_wp2
        go_region_held3 (fun W => W.cell? ⟨g1, o1 + k * 8, none⟩ = some (.int .i64 gx) ∧ W.cell? ⟨g1, o1 + k * 8 + 1, none⟩ = some (.int .i64 gy) ∧ W.cell? ⟨g1, o1 + k * 8 + 2, none⟩ = some (.int .i64 gz) ∧ W.cell? ⟨g1, o1 + k * 8 + 3, none⟩ = some (.bool ge) ∧ W.cell? ⟨g1, o1 + k * 8 + 4, none⟩ = some (.int .u32 (gi : Int)) ∧ W.cell? ⟨g1, o1 + k * 8 + 5, none⟩ = some (.bool gr) ∧ W.cell? ⟨g1, o1 + k * 8 + 6, none⟩ = some (.int .i64 gd) ∧ W.cell? ⟨g1, o1 + k * 8 + 7, none⟩ = some (.slice p1 m1 q1) ∧ W.cell? ⟨g2, o2 + k * 8, none⟩ = some (.int .i64 gx) ∧ W.cell? ⟨g2, o2 + k * 8 + 1, none⟩ = some (.int .i64 gy) ∧ W.cell? ⟨g2, o2 + k * 8 + 2, none⟩ = some (.int .i64 gz) ∧ W.cell? ⟨g2, o2 + k * 8 + 3, none⟩ = some (.bool ge) ∧ W.cell? ⟨g2, o2 + k * 8 + 4, none⟩ = some (.int .u32 (gi : Int)) ∧ W.cell? ⟨g2, o2 + k * 8 + 5, none⟩ = some (.bool gr) ∧ W.cell? ⟨g2, o2 + k * 8 + 6, none⟩ = some (.int .i64 gd) ∧ W.cell? ⟨g2, o2 + k * 8 + 7, none⟩ = some (.slice p2 m2 q2) ∧ isBytes W p1 m1 q1 L ∧ isBytes W p2 m2 q2 L ∧ g1 < W.heap.size ∧ g2 < W.heap.size) (first | exact invEvent_be _ _ _ _ _ _ _ _ _ _ _ _ _ _ _ _ _ _ _ _ hS0 (Below.refl _ _).drew | exact invEvent_be _ _ _ _ _ _ _ _ _ _ _ _ _ _ _ _ _ _ _ _ (by assumption) (by assumption)) (first | (go_at_call 95; refine (eqEvent_same _ gx gy gz ge gi gr gd p1 m1 q1 L (invEvent_dat (by assumption)).1 p2 m2 q2 (invEvent_dat (by assumption)).2 hm).mono ?_; rintro o w5 ⟨rfl, hb5⟩))
        go_wp2
        go_roundw
        case rel => exact ⟨k + 1, by omega, by go_num, HB.out.trans (((Below.refl _ _).drew.trans hb5).mono HB.out.size)⟩
        case measure => simp [intOf]; omega
      · go_wp2
        go_ret
        exact ⟨rfl, hb⟩
end Go.Proofs.YtaamahohdnbpiaaGreat
