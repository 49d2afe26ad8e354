import Derived.Test.YtaamahohdnbpiaaGreatG02
import Derived.Test.YtaamahohdnbpiaaGreatG01
namespace Go.Proofs.YtaamahohdnbpiaaGreat
open Go.RowKit
theorem invBox_be (W W' : World) (g1 g2 A B : Nat) (gx : Int) (gy : Int) (gz : Int) (ge : Bool) (gi : Nat) (gr : Bool) (gd : Int) (p1 p2 : Option Addr) (m1 q1 m2 q2 : Nat) (L : List Nat) (h : W.cell? ⟨g1, A, none⟩ = some (.int .i64 gx) ∧ W.cell? ⟨g1, A + 1, none⟩ = some (.int .i64 gy) ∧ W.cell? ⟨g1, A + 2, none⟩ = some (.int .i64 gz) ∧ W.cell? ⟨g1, A + 3, none⟩ = some (.bool ge) ∧ W.cell? ⟨g1, A + 4, none⟩ = some (.int .u32 (gi : Int)) ∧ W.cell? ⟨g1, A + 5, none⟩ = some (.bool gr) ∧ W.cell? ⟨g1, A + 6, none⟩ = some (.int .i64 gd) ∧ W.cell? ⟨g1, A + 7, none⟩ = some (.slice p1 m1 q1) ∧ W.cell? ⟨g2, B, none⟩ = some (.int .i64 gx) ∧ W.cell? ⟨g2, B + 1, none⟩ = some (.int .i64 gy) ∧ W.cell? ⟨g2, B + 2, none⟩ = some (.int .i64 gz) ∧ W.cell? ⟨g2, B + 3, none⟩ = some (.bool ge) ∧ W.cell? ⟨g2, B + 4, none⟩ = some (.int .u32 (gi : Int)) ∧ W.cell? ⟨g2, B + 5, none⟩ = some (.bool gr) ∧ W.cell? ⟨g2, B + 6, none⟩ = some (.int .i64 gd) ∧ W.cell? ⟨g2, B + 7, none⟩ = some (.slice p2 m2 q2) ∧ isBytes W p1 m1 q1 L ∧ isBytes W p2 m2 q2 L ∧ g1 < W.heap.size ∧ g2 < W.heap.size) (hb : Below W.heap.size W W') : (fun W => W.cell? ⟨g1, A, none⟩ = some (.int .i64 gx) ∧ W.cell? ⟨g1, A + 1, none⟩ = some (.int .i64 gy) ∧ W.cell? ⟨g1, A + 2, none⟩ = some (.int .i64 gz) ∧ W.cell? ⟨g1, A + 3, none⟩ = some (.bool ge) ∧ W.cell? ⟨g1, A + 4, none⟩ = some (.int .u32 (gi : Int)) ∧ W.cell? ⟨g1, A + 5, none⟩ = some (.bool gr) ∧ W.cell? ⟨g1, A + 6, none⟩ = some (.int .i64 gd) ∧ W.cell? ⟨g1, A + 7, none⟩ = some (.slice p1 m1 q1) ∧ W.cell? ⟨g2, B, none⟩ = some (.int .i64 gx) ∧ W.cell? ⟨g2, B + 1, none⟩ = some (.int .i64 gy) ∧ W.cell? ⟨g2, B + 2, none⟩ = some (.int .i64 gz) ∧ W.cell? ⟨g2, B + 3, none⟩ = some (.bool ge) ∧ W.cell? ⟨g2, B + 4, none⟩ = some (.int .u32 (gi : Int)) ∧ W.cell? ⟨g2, B + 5, none⟩ = some (.bool gr) ∧ W.cell? ⟨g2, B + 6, none⟩ = some (.int .i64 gd) ∧ W.cell? ⟨g2, B + 7, none⟩ = some (.slice p2 m2 q2) ∧ isBytes W p1 m1 q1 L ∧ isBytes W p2 m2 q2 L ∧ g1 < W.heap.size ∧ g2 < W.heap.size) W' := by
  obtain ⟨a0, a1, a2, a3, a4, a5, a6, a7, b0, b1, b2, b3, b4, b5, b6, b7, d1, d2, s1, s2⟩ := h
  exact ⟨(hb.cell (by exact s1)).trans a0, (hb.cell (by exact s1)).trans a1, (hb.cell (by exact s1)).trans a2, (hb.cell (by exact s1)).trans a3, (hb.cell (by exact s1)).trans a4, (hb.cell (by exact s1)).trans a5, (hb.cell (by exact s1)).trans a6, (hb.cell (by exact s1)).trans a7, (hb.cell (by exact s2)).trans b0, (hb.cell (by exact s2)).trans b1, (hb.cell (by exact s2)).trans b2, (hb.cell (by exact s2)).trans b3, (hb.cell (by exact s2)).trans b4, (hb.cell (by exact s2)).trans b5, (hb.cell (by exact s2)).trans b6, (hb.cell (by exact s2)).trans b7, d1.below hb, d2.below hb, Nat.lt_of_lt_of_le s1 hb.size, Nat.lt_of_lt_of_le s2 hb.size⟩
theorem invBox_dat {W : World} {g1 g2 A B : Nat} {gx : Int} {gy : Int} {gz : Int} {ge : Bool} {gi : Nat} {gr : Bool} {gd : Int} {p1 p2 : Option Addr} {m1 q1 m2 q2 : Nat} {L : List Nat} (h : W.cell? ⟨g1, A, none⟩ = some (.int .i64 gx) ∧ W.cell? ⟨g1, A + 1, none⟩ = some (.int .i64 gy) ∧ W.cell? ⟨g1, A + 2, none⟩ = some (.int .i64 gz) ∧ W.cell? ⟨g1, A + 3, none⟩ = some (.bool ge) ∧ W.cell? ⟨g1, A + 4, none⟩ = some (.int .u32 (gi : Int)) ∧ W.cell? ⟨g1, A + 5, none⟩ = some (.bool gr) ∧ W.cell? ⟨g1, A + 6, none⟩ = some (.int .i64 gd) ∧ W.cell? ⟨g1, A + 7, none⟩ = some (.slice p1 m1 q1) ∧ W.cell? ⟨g2, B, none⟩ = some (.int .i64 gx) ∧ W.cell? ⟨g2, B + 1, none⟩ = some (.int .i64 gy) ∧ W.cell? ⟨g2, B + 2, none⟩ = some (.int .i64 gz) ∧ W.cell? ⟨g2, B + 3, none⟩ = some (.bool ge) ∧ W.cell? ⟨g2, B + 4, none⟩ = some (.int .u32 (gi : Int)) ∧ W.cell? ⟨g2, B + 5, none⟩ = some (.bool gr) ∧ W.cell? ⟨g2, B + 6, none⟩ = some (.int .i64 gd) ∧ W.cell? ⟨g2, B + 7, none⟩ = some (.slice p2 m2 q2) ∧ isBytes W p1 m1 q1 L ∧ isBytes W p2 m2 q2 L ∧ g1 < W.heap.size ∧ g2 < W.heap.size) : isBytes W p1 m1 q1 L ∧ isBytes W p2 m2 q2 L := ⟨h.2.2.2.2.2.2.2.2.2.2.2.2.2.2.2.2.1, h.2.2.2.2.2.2.2.2.2.2.2.2.2.2.2.2.2.1⟩
set_option maxHeartbeats 4000000 in
set_option maxRecDepth 20000 in
theorem eqBoxS_same (w : World) (a1 a2 : Option Addr) (n1 c1 n2 c2 : Nat) (bs : List R8) (h1 : isR8s w a1 n1 c1 bs) (h2 : isR8s w a2 n2 c2 bs) (hn : n1 ≤ 1048576) (hd : ∀ j (h : j < bs.length), bs[j].l.length ≤ 1048576) :
    Calls Tryz.prog 93 #[.slice a1 n1 c1, .slice a2 n2 c2] w fun o w' => o = .returned (.bool true) ∧ Below w.heap.size w w' := by
  have e1 := h1.len
  have e2 := h2.len
  by_cases hl : bs = []
  · subst hl
    have e1' : n1 = 0 := e1
    have e2' : n2 = 0 := e2
    subst e1' e2'
    clear e1 e2 h1 h2 hd
    go_enter Tryz.func93, Tryz.ntmps93
    go_wp2
    go_loopw [5] (fun i wr => i = .int .i64 0 ∧ wr = w) (fun _ _ => 0)
    case atStart => exact ⟨rfl, rfl⟩
    case round =>
      obtain ⟨rfl, rfl⟩ := hrel
      go_wp2
      go_ret
      exact ⟨rfl, Below.refl _ _⟩
  · obtain ⟨g1, o1, rfl, k1⟩ := h1.cells hl
    obtain ⟨g2, o2, rfl, k2⟩ := h2.cells hl
    have hnn : n2 = n1 := by omega
    subst hnn
    have HL : Hid (n2 = bs.length) := e2
    have HK1 : Hid (∀ j (h : j < bs.length), ∃ ao m c, at8 w g1 (o1 + j * 8) bs[j] ao m c) := k1
    have HK2 : Hid (∀ j (h : j < bs.length), ∃ ao m c, at8 w g2 (o2 + j * 8) bs[j] ao m c) := k2
    have hcp1 := h1.cap
    have hcp2 := h2.cap
    have HD0 : Hid (∀ j (h : j < bs.length), bs[j].l.length ≤ 1048576) := hd
    clear hd
    clear e1 e2 h1 h2 k1 k2
    go_enter Tryz.func93, Tryz.ntmps93
    go_wp2
    go_loopw [5] (fun i wr => ∃ k : Nat, k ≤ n2 ∧ i = .int .i64 k ∧ Below w.heap.size w wr) (fun i _ => n2 - (intOf i).toNat)
    case atStart => exact ⟨0, Nat.zero_le _, rfl, Below.refl _ _⟩
    case round =>
      obtain ⟨k, hk, rfl, hb⟩ := hrel
      by_cases hlt : k < n2
      · have hkl : k < bs.length := by have := HL.out; omega
        obtain ⟨p1, m1, q1, y1⟩ := HK1.out k hkl
        obtain ⟨p2, m2, q2, y2⟩ := HK2.out k hkl
        have z1 := World.block_lt_of_cell? w _ y1.c0
        have z2 := World.block_lt_of_cell? w _ y2.c0
        have hm : m1 ≤ 1048576 := by have := HD0.out k hkl; have := y1.dat.len; omega
        have hS0 : wr.cell? ⟨g1, o1 + k * 8, none⟩ = some (.int .i64 bs[k].x) ∧ wr.cell? ⟨g1, o1 + k * 8 + 1, none⟩ = some (.int .i64 bs[k].y) ∧ wr.cell? ⟨g1, o1 + k * 8 + 2, none⟩ = some (.int .i64 bs[k].z) ∧ wr.cell? ⟨g1, o1 + k * 8 + 3, none⟩ = some (.bool bs[k].e) ∧ wr.cell? ⟨g1, o1 + k * 8 + 4, none⟩ = some (.int .u32 (bs[k].i : Int)) ∧ wr.cell? ⟨g1, o1 + k * 8 + 5, none⟩ = some (.bool bs[k].r) ∧ wr.cell? ⟨g1, o1 + k * 8 + 6, none⟩ = some (.int .i64 bs[k].d) ∧ wr.cell? ⟨g1, o1 + k * 8 + 7, none⟩ = some (.slice p1 m1 q1) ∧ wr.cell? ⟨g2, o2 + k * 8, none⟩ = some (.int .i64 bs[k].x) ∧ wr.cell? ⟨g2, o2 + k * 8 + 1, none⟩ = some (.int .i64 bs[k].y) ∧ wr.cell? ⟨g2, o2 + k * 8 + 2, none⟩ = some (.int .i64 bs[k].z) ∧ wr.cell? ⟨g2, o2 + k * 8 + 3, none⟩ = some (.bool bs[k].e) ∧ wr.cell? ⟨g2, o2 + k * 8 + 4, none⟩ = some (.int .u32 (bs[k].i : Int)) ∧ wr.cell? ⟨g2, o2 + k * 8 + 5, none⟩ = some (.bool bs[k].r) ∧ wr.cell? ⟨g2, o2 + k * 8 + 6, none⟩ = some (.int .i64 bs[k].d) ∧ wr.cell? ⟨g2, o2 + k * 8 + 7, none⟩ = some (.slice p2 m2 q2) ∧ isBytes wr p1 m1 q1 bs[k].l ∧ isBytes wr p2 m2 q2 bs[k].l ∧ g1 < wr.heap.size ∧ g2 < wr.heap.size := ⟨(hb.cell (by exact z1)).trans y1.c0, (hb.cell (by exact z1)).trans y1.c1, (hb.cell (by exact z1)).trans y1.c2, (hb.cell (by exact z1)).trans y1.c3, (hb.cell (by exact z1)).trans y1.c4, (hb.cell (by exact z1)).trans y1.c5, (hb.cell (by exact z1)).trans y1.c6, (hb.cell (by exact z1)).trans y1.cs, (hb.cell (by exact z2)).trans y2.c0, (hb.cell (by exact z2)).trans y2.c1, (hb.cell (by exact z2)).trans y2.c2, (hb.cell (by exact z2)).trans y2.c3, (hb.cell (by exact z2)).trans y2.c4, (hb.cell (by exact z2)).trans y2.c5, (hb.cell (by exact z2)).trans y2.c6, (hb.cell (by exact z2)).trans y2.cs, y1.dat.below hb, y2.dat.below hb, Nat.lt_of_lt_of_le z1 hb.size, Nat.lt_of_lt_of_le z2 hb.size⟩
        have HB : Hid (Below w.heap.size w wr) := hb
        clear hb y1 y2 z1 z2
        generalize hBx : bs[k].x = gx at *
        generalize hBy : bs[k].y = gy at *
        generalize hBz : bs[k].z = gz at *
        generalize hBe : bs[k].e = ge at *
        generalize hBi : bs[k].i = gi at *
        generalize hBr : bs[k].r = gr at *
        generalize hBd : bs[k].d = gd at *
        generalize hBl : bs[k].l = L at *
        clear hBx hBy hBz hBe hBi hBr hBd hBl
        go_wp2
        go_region_held3 (fun W => W.cell? ⟨g1, o1 + k * 8, none⟩ = some (.int .i64 gx) ∧ W.cell? ⟨g1, o1 + k * 8 + 1, none⟩ = some (.int .i64 gy) ∧ W.cell? ⟨g1, o1 + k * 8 + 2, none⟩ = some (.int .i64 gz) ∧ W.cell? ⟨g1, o1 + k * 8 + 3, none⟩ = some (.bool ge) ∧ W.cell? ⟨g1, o1 + k * 8 + 4, none⟩ = some (.int .u32 (gi : Int)) ∧ W.cell? ⟨g1, o1 + k * 8 + 5, none⟩ = some (.bool gr) ∧ W.cell? ⟨g1, o1 + k * 8 + 6, none⟩ = some (.int .i64 gd) ∧ W.cell? ⟨g1, o1 + k * 8 + 7, none⟩ = some (.slice p1 m1 q1) ∧ W.cell? ⟨g2, o2 + k * 8, none⟩ = some (.int .i64 gx) ∧ W.cell? ⟨g2, o2 + k * 8 + 1, none⟩ = some (.int .i64 gy) ∧ W.cell? ⟨g2, o2 + k * 8 + 2, none⟩ = some (.int .i64 gz) ∧ W.cell? ⟨g2, o2 + k * 8 + 3, none⟩ = some (.bool ge) ∧ W.cell? ⟨g2, o2 + k * 8 + 4, none⟩ = some (.int .u32 (gi : Int)) ∧ W.cell? ⟨g2, o2 + k * 8 + 5, none⟩ = some (.bool gr) ∧ W.cell? ⟨g2, o2 + k * 8 + 6, none⟩ = some (.int .i64 gd) ∧ W.cell? ⟨g2, o2 + k * 8 + 7, none⟩ = some (.slice p2 m2 q2) ∧ isBytes W p1 m1 q1 L ∧ isBytes W p2 m2 q2 L ∧ g1 < W.heap.size ∧ g2 < W.heap.size) (first | exact invBox_be _ _ _ _ _ _ _ _ _ _ _ _ _ _ _ _ _ _ _ _ hS0 (Below.refl _ _).drew | exact invBox_be _ _ _ _ _ _ _ _ _ _ _ _ _ _ _ _ _ _ _ _ (by assumption) (by assumption)) (first | (go_at_call 150; refine (eqBox_same _ gx gy gz ge gi gr gd p1 m1 q1 L (invBox_dat (by assumption)).1 p2 m2 q2 (invBox_dat (by assumption)).2 hm).mono ?_; rintro o w5 ⟨rfl, hb5⟩))
        go_wp2
        go_roundw
        case rel => exact ⟨k + 1, by omega, by go_num, HB.out.trans (((Below.refl _ _).drew.trans hb5).mono HB.out.size)⟩
        case measure => simp [intOf]; omega
      · go_wp2
        go_ret
        exact ⟨rfl, hb⟩
end Go.Proofs.YtaamahohdnbpiaaGreat
namespace Go.Proofs.YtaamahohdnbpiaaGreat
open Go.RowKit
theorem invEvent_be (W W' : World) (g1 g2 A B : Nat) (gx : Int) (gy : Int) (gz : Int) (ge : Bool) (gi : Nat) (gr : Bool) (gd : Int) (p1 p2 : Option Addr) (m1 q1 m2 q2 : Nat) (L : List Nat) (h : W.cell? ⟨g1, A, none⟩ = some (.int .i64 gx) ∧ W.cell? ⟨g1, A + 1, none⟩ = some (.int .i64 gy) ∧ W.cell? ⟨g1, A + 2, none⟩ = some (.int .i64 gz) ∧ W.cell? ⟨g1, A + 3, none⟩ = some (.bool ge) ∧ W.cell? ⟨g1, A + 4, none⟩ = some (.int .u32 (gi : Int)) ∧ W.cell? ⟨g1, A + 5, none⟩ = some (.bool gr) ∧ W.cell? ⟨g1, A + 6, none⟩ = some (.int .i64 gd) ∧ W.cell? ⟨g1, A + 7, none⟩ = some (.slice p1 m1 q1) ∧ W.cell? ⟨g2, B, none⟩ = some (.int .i64 gx) ∧ W.cell? ⟨g2, B + 1, none⟩ = some (.int .i64 gy) ∧ W.cell? ⟨g2, B + 2, none⟩ = some (.int .i64 gz) ∧ W.cell? ⟨g2, B + 3, none⟩ = some (.bool ge) ∧ W.cell? ⟨g2, B + 4, none⟩ = some (.int .u32 (gi : Int)) ∧ W.cell? ⟨g2, B + 5, none⟩ = some (.bool gr) ∧ W.cell? ⟨g2, B + 6, none⟩ = some (.int .i64 gd) ∧ W.cell? ⟨g2, B + 7, none⟩ = some (.slice p2 m2 q2) ∧ isBytes W p1 m1 q1 L ∧ isBytes W p2 m2 q2 L ∧ g1 < W.heap.size ∧ g2 < W.heap.size) (hb : Below W.heap.size W W') : (fun W => W.cell? ⟨g1, A, none⟩ = some (.int .i64 gx) ∧ W.cell? ⟨g1, A + 1, none⟩ = some (.int .i64 gy) ∧ W.cell? ⟨g1, A + 2, none⟩ = some (.int .i64 gz) ∧ W.cell? ⟨g1, A + 3, none⟩ = some (.bool ge) ∧ W.cell? ⟨g1, A + 4, none⟩ = some (.int .u32 (gi : Int)) ∧ W.cell? ⟨g1, A + 5, none⟩ = some (.bool gr) ∧ W.cell? ⟨g1, A + 6, none⟩ = some (.int .i64 gd) ∧ W.cell? ⟨g1, A + 7, none⟩ = some (.slice p1 m1 q1) ∧ W.cell? ⟨g2, B, none⟩ = some (.int .i64 gx) ∧ W.cell? ⟨g2, B + 1, none⟩ = some (.int .i64 gy) ∧ W.cell? ⟨g2, B + 2, none⟩ = some (.int .i64 gz) ∧ W.cell? ⟨g2, B + 3, none⟩ = some (.bool ge) ∧ W.cell? ⟨g2, B + 4, none⟩ = some (.int .u32 (gi : Int)) ∧ W.cell? ⟨g2, B + 5, none⟩ = some (.bool gr) ∧ W.cell? ⟨g2, B + 6, none⟩ = some (.int .i64 gd) ∧ W.cell? ⟨g2, B + 7, none⟩ = some (.slice p2 m2 q2) ∧ isBytes W p1 m1 q1 L ∧ isBytes W p2 m2 q2 L ∧ g1 < W.heap.size ∧ g2 < W.heap.size) W' := by
  obtain ⟨a0, a1, a2, a3, a4, a5, a6, a7, b0, b1, b2, b3, b4, b5, b6, b7, d1, d2, s1, s2⟩ := h
  exact ⟨(hb.cell (by exact s1)).trans a0, (hb.cell (by exact s1)).trans a1, (hb.cell (by exact s1)).trans a2, (hb.cell (by exact s1)).trans a3, (hb.cell (by exact s1)).trans a4, (hb.cell (by exact s1)).trans a5, (hb.cell (by exact s1)).trans a6, (hb.cell (by exact s1)).trans a7, (hb.cell (by exact s2)).trans b0, (hb.cell (by exact s2)).trans b1, (hb.cell (by exact s2)).trans b2, (hb.cell (by exact s2)).trans b3, (hb.cell (by exact s2)).trans b4, (hb.cell (by exact s2)).trans b5, (hb.cell (by exact s2)).trans b6, (hb.cell (by exact s2)).trans b7, d1.below hb, d2.below hb, Nat.lt_of_lt_of_le s1 hb.size, Nat.lt_of_lt_of_le s2 hb.size⟩
theorem invEvent_dat {W : World} {g1 g2 A B : Nat} {gx : Int} {gy : Int} {gz : Int} {ge : Bool} {gi : Nat} {gr : Bool} {gd : Int} {p1 p2 : Option Addr} {m1 q1 m2 q2 : Nat} {L : List Nat} (h : W.cell? ⟨g1, A, none⟩ = some (.int .i64 gx) ∧ W.cell? ⟨g1, A + 1, none⟩ = some (.int .i64 gy) ∧ W.cell? ⟨g1, A + 2, none⟩ = some (.int .i64 gz) ∧ W.cell? ⟨g1, A + 3, none⟩ = some (.bool ge) ∧ W.cell? ⟨g1, A + 4, none⟩ = some (.int .u32 (gi : Int)) ∧ W.cell? ⟨g1, A + 5, none⟩ = some (.bool gr) ∧ W.cell? ⟨g1, A + 6, none⟩ = some (.int .i64 gd) ∧ W.cell? ⟨g1, A + 7, none⟩ = some (.slice p1 m1 q1) ∧ W.cell? ⟨g2, B, none⟩ = some (.int .i64 gx) ∧ W.cell? ⟨g2, B + 1, none⟩ = some (.int .i64 gy) ∧ W.cell? ⟨g2, B + 2, none⟩ = some (.int .i64 gz) ∧ W.cell? ⟨g2, B + 3, none⟩ = some (.bool ge) ∧ W.cell? ⟨g2, B + 4, none⟩ = some (.int .u32 (gi : Int)) ∧ W.cell? ⟨g2, B + 5, none⟩ = some (.bool gr) ∧ W.cell? ⟨g2, B + 6, none⟩ = some (.int .i64 gd) ∧ W.cell? ⟨g2, B + 7, none⟩ = some (.slice p2 m2 q2) ∧ isBytes W p1 m1 q1 L ∧ isBytes W p2 m2 q2 L ∧ g1 < W.heap.size ∧ g2 < W.heap.size) : isBytes W p1 m1 q1 L ∧ isBytes W p2 m2 q2 L := ⟨h.2.2.2.2.2.2.2.2.2.2.2.2.2.2.2.2.1, h.2.2.2.2.2.2.2.2.2.2.2.2.2.2.2.2.2.1⟩
set_option maxHeartbeats 4000000 in
set_option maxRecDepth 20000 in
theorem eqEventS_same (w : World) (a1 a2 : Option Addr) (n1 c1 n2 c2 : Nat) (bs : List R8) (h1 : isR8s w a1 n1 c1 bs) (h2 : isR8s w a2 n2 c2 bs) (hn : n1 ≤ 1048576) (hd : ∀ j (h : j < bs.length), bs[j].l.length ≤ 1048576) :
    Calls Tryz.prog 38 #[.slice a1 n1 c1, .slice a2 n2 c2] w fun o w' => o = .returned (.bool true) ∧ Below w.heap.size w w' := by
  have e1 := h1.len
  have e2 := h2.len
  by_cases hl : bs = []
  · subst hl
    have e1' : n1 = 0 := e1
    have e2' : n2 = 0 := e2
    subst e1' e2'
    clear e1 e2 h1 h2 hd
    go_enter Tryz.func38, Tryz.ntmps38
    go_wp2
    go_loopw [5] (fun i wr => i = .int .i64 0 ∧ wr = w) (fun _ _ => 0)
    case atStart => exact ⟨rfl, rfl⟩
    case round =>
      obtain ⟨rfl, rfl⟩ := hrel
      go_wp2
      go_ret
      exact ⟨rfl, Below.refl _ _⟩
  · obtain ⟨g1, o1, rfl, k1⟩ := h1.cells hl
    obtain ⟨g2, o2, rfl, k2⟩ := h2.cells hl
    have hnn : n2 = n1 := by omega
    subst hnn
    have HL : Hid (n2 = bs.length) := e2
    have HK1 : Hid (∀ j (h : j < bs.length), ∃ ao m c, at8 w g1 (o1 + j * 8) bs[j] ao m c) := k1
    have HK2 : Hid (∀ j (h : j < bs.length), ∃ ao m c, at8 w g2 (o2 + j * 8) bs[j] ao m c) := k2
    have hcp1 := h1.cap
    have hcp2 := h2.cap
    have HD0 : Hid (∀ j (h : j < bs.length), bs[j].l.length ≤ 1048576) := hd
    clear hd
    clear e1 e2 h1 h2 k1 k2
    go_enter Tryz.func38, Tryz.ntmps38
    go_wp2
    go_loopw [5] (fun i wr => ∃ k : Nat, k ≤ n2 ∧ i = .int .i64 k ∧ Below w.heap.size w wr) (fun i _ => n2 - (intOf i).toNat)
    case atStart => exact ⟨0, Nat.zero_le _, rfl, Below.refl _ _⟩
    case round =>
      obtain ⟨k, hk, rfl, hb⟩ := hrel
      by_cases hlt : k < n2
      · have hkl : k < bs.length := by have := HL.out; omega
        obtain ⟨p1, m1, q1, y1⟩ := HK1.out k hkl
        obtain ⟨p2, m2, q2, y2⟩ := HK2.out k hkl
        have z1 := World.block_lt_of_cell? w _ y1.c0
        have z2 := World.block_lt_of_cell? w _ y2.c0
        have hm : m1 ≤ 1048576 := by have := HD0.out k hkl; have := y1.dat.len; omega
        have hS0 : wr.cell? ⟨g1, o1 + k * 8, none⟩ = some (.int .i64 bs[k].x) ∧ wr.cell? ⟨g1, o1 + k * 8 + 1, none⟩ = some (.int .i64 bs[k].y) ∧ wr.cell? ⟨g1, o1 + k * 8 + 2, none⟩ = some (.int .i64 bs[k].z) ∧ wr.cell? ⟨g1, o1 + k * 8 + 3, none⟩ = some (.bool bs[k].e) ∧ wr.cell? ⟨g1, o1 + k * 8 + 4, none⟩ = some (.int .u32 (bs[k].i : Int)) ∧ wr.cell? ⟨g1, o1 + k * 8 + 5, none⟩ = some (.bool bs[k].r) ∧ wr.cell? ⟨g1, o1 + k * 8 + 6, none⟩ = some (.int .i64 bs[k].d) ∧ wr.cell? ⟨g1, o1 + k * 8 + 7, none⟩ = some (.slice p1 m1 q1) ∧ wr.cell? ⟨g2, o2 + k * 8, none⟩ = some (.int .i64 bs[k].x) ∧ wr.cell? ⟨g2, o2 + k * 8 + 1, none⟩ = some (.int .i64 bs[k].y) ∧ wr.cell? ⟨g2, o2 + k * 8 + 2, none⟩ = some (.int .i64 bs[k].z) ∧ wr.cell? ⟨g2, o2 + k * 8 + 3, none⟩ = some (.bool bs[k].e) ∧ wr.cell? ⟨g2, o2 + k * 8 + 4, none⟩ = some (.int .u32 (bs[k].i : Int)) ∧ wr.cell? ⟨g2, o2 + k * 8 + 5, none⟩ = some (.bool bs[k].r) ∧ wr.cell? ⟨g2, o2 + k * 8 + 6, none⟩ = some (.int .i64 bs[k].d) ∧ wr.cell? ⟨g2, o2 + k * 8 + 7, none⟩ = some (.slice p2 m2 q2) ∧ isBytes wr p1 m1 q1 bs[k].l ∧ isBytes wr p2 m2 q2 bs[k].l ∧ g1 < wr.heap.size ∧ g2 < wr.heap.size := ⟨(hb.cell (by exact z1)).trans y1.c0, (hb.cell (by exact z1)).trans y1.c1, (hb.cell (by exact z1)).trans y1.c2, (hb.cell (by exact z1)).trans y1.c3, (hb.cell (by exact z1)).trans y1.c4, (hb.cell (by exact z1)).trans y1.c5, (hb.cell (by exact z1)).trans y1.c6, (hb.cell (by exact z1)).trans y1.cs, (hb.cell (by exact z2)).trans y2.c0, (hb.cell (by exact z2)).trans y2.c1, (hb.cell (by exact z2)).trans y2.c2, (hb.cell (by exact z2)).trans y2.c3, (hb.cell (by exact z2)).trans y2.c4, (hb.cell (by exact z2)).trans y2.c5, (hb.cell (by exact z2)).trans y2.c6, (hb.cell (by exact z2)).trans y2.cs, y1.dat.below hb, y2.dat.below hb, Nat.lt_of_lt_of_le z1 hb.size, Nat.lt_of_lt_of_le z2 hb.size⟩
        have HB : Hid (Below w.heap.size w wr) := hb
        clear hb y1 y2 z1 z2
        generalize hBx : bs[k].x = gx at *
        generalize hBy : bs[k].y = gy at *
        generalize hBz : bs[k].z = gz at *
        generalize hBe : bs[k].e = ge at *
        generalize hBi : bs[k].i = gi at *
        generalize hBr : bs[k].r = gr at *
        generalize hBd : bs[k].d = gd at *
        generalize hBl : bs[k].l = L at *
        clear hBx hBy hBz hBe hBi hBr hBd hBl
        go_wp2
        go_region_held3 (fun W => W.cell? ⟨g1, o1 + k * 8, none⟩ = some (.int .i64 gx) ∧ W.cell? ⟨g1, o1 + k * 8 + 1, none⟩ = some (.int .i64 gy) ∧ W.cell? ⟨g1, o1 + k * 8 + 2, none⟩ = some (.int .i64 gz) ∧ W.cell? ⟨g1, o1 + k * 8 + 3, none⟩ = some (.bool ge) ∧ W.cell? ⟨g1, o1 + k * 8 + 4, none⟩ = some (.int .u32 (gi : Int)) ∧ W.cell? ⟨g1, o1 + k * 8 + 5, none⟩ = some (.bool gr) ∧ W.cell? ⟨g1, o1 + k * 8 + 6, none⟩ = some (.int .i64 gd) ∧ W.cell? ⟨g1, o1 + k * 8 + 7, none⟩ = some (.slice p1 m1 q1) ∧ W.cell? ⟨g2, o2 + k * 8, none⟩ = some (.int .i64 gx) ∧ W.cell? ⟨g2, o2 + k * 8 + 1, none⟩ = some (.int .i64 gy) ∧ W.cell? ⟨g2, o2 + k * 8 + 2, none⟩ = some (.int .i64 gz) ∧ W.cell? ⟨g2, o2 + k * 8 + 3, none⟩ = some (.bool ge) ∧ W.cell? ⟨g2, o2 + k * 8 + 4, none⟩ = some (.int .u32 (gi : Int)) ∧ W.cell? ⟨g2, o2 + k * 8 + 5, none⟩ = some (.bool gr) ∧ W.cell? ⟨g2, o2 + k * 8 + 6, none⟩ = some (.int .i64 gd) ∧ W.cell? ⟨g2, o2 + k * 8 + 7, none⟩ = some (.slice p2 m2 q2) ∧ isBytes W p1 m1 q1 L ∧ isBytes W p2 m2 q2 L ∧ g1 < W.heap.size ∧ g2 < W.heap.size) (first | exact invEvent_be _ _ _ _ _ _ _ _ _ _ _ _ _ _ _ _ _ _ _ _ hS0 (Below.refl _ _).drew | exact invEvent_be _ _ _ _ _ _ _ _ _ _ _ _ _ _ _ _ _ _ _ _ (by assumption) (by assumption)) (first | (go_at_call 95; refine (eqEvent_same _ gx gy gz ge gi gr gd p1 m1 q1 L (invEvent_dat (by assumption)).1 p2 m2 q2 (invEvent_dat (by assumption)).2 hm).mono ?_; rintro o w5 ⟨rfl, hb5⟩))
        go_wp2
        go_roundw
        case rel => exact ⟨k + 1, by omega, by go_num, HB.out.trans (((Below.refl _ _).drew.trans hb5).mono HB.out.size)⟩
        case measure => simp [intOf]; omega
      · go_wp2
        go_ret
        exact ⟨rfl, hb⟩
end Go.Proofs.YtaamahohdnbpiaaGreat
namespace Go.Proofs.YtaamahohdnbpiaaGreat
open Go.RowKit
set_option maxHeartbeats 2000000 in
set_option maxRecDepth 20000 in
theorem szFrameS_any (w : World) (a : Option Addr) (n cap : Nat) (bs : List R5) (h : isR5s w a n cap bs) (m : Nat) (hm : m ≤ 1048576) (hn : n ≤ 9223372036854775807) (hd : ∀ j (h : j < bs.length), bs[j].l.length ≤ 9223372036854775807) :
    Calls Tryz.prog 84 #[.slice a n cap, .int .i64 (m : Int)] w fun o w' => ∃ z : Int, o = .returned (.int .i64 z) ∧ Below w.heap.size w w' ∧ (z = -1 ∨ ∃ m' : Nat, z = (m' : Int) ∧ m' ≤ m ∧ n ≤ m ∧ ∀ j (h : j < bs.length), bs[j].l.length ≤ m) := by
  have hlen := h.len
  have hcp := h.cap
  by_cases hnm : n ≤ m
  · by_cases hl : bs = []
    · subst hl
      have hn0 : n = 0 := hlen
      subst hn0
      clear hlen h hd
      go_enter Tryz.func84, Tryz.ntmps84
      go_wp2
      go_loopw [1, 5] (fun lf i wr => i = .int .i64 0 ∧ lf = .int .i64 (m : Int) ∧ wr = w) (fun _ _ _ => 0)
      case atStart => exact ⟨rfl, rfl, rfl⟩
      case round =>
        obtain ⟨rfl, rfl, rfl⟩ := hrel
        go_wp2
        go_ret
        exact ⟨_, rfl, Below.refl _ _, .inr ⟨m, rfl, Nat.le_refl _, by omega, fun j hj => by cases hj⟩⟩
    · obtain ⟨g, off, rfl, hc⟩ := h.cells hl
      have HL : Hid (n = bs.length) := hlen
      have HC : Hid (∀ j (h : j < bs.length), ∃ ao m c, at5 w g (off + j * 5) bs[j] ao m c) := hc
      have HD : Hid (∀ j (h : j < bs.length), bs[j].l.length ≤ 9223372036854775807) := hd
      have hnz : ¬ (m : Int) - (n : Int) < 0 := by omega
      clear h hlen hc hd
      go_enter Tryz.func84, Tryz.ntmps84
      go_wp2
      go_loopw [1, 5] (fun lf i wr => ∃ k m' : Nat, k ≤ n ∧ i = .int .i64 (k : Int) ∧ lf = .int .i64 (m' : Int) ∧ m' ≤ m ∧ Below w.heap.size w wr ∧ ∀ j (hj : j < k) (h : j < bs.length), bs[j].l.length ≤ m) (fun _ i _ => n - (intOf i).toNat)
      case atStart => exact ⟨0, m - n, Nat.zero_le _, rfl, by go_num, by omega, Below.refl _ _, fun j hj => absurd hj (Nat.not_lt_zero _)⟩
      case round =>
        obtain ⟨k, m', hk, rfl, rfl, hm', hb, hdone⟩ := hrel
        by_cases hlt : k < n
        · have hkl : k < bs.length := by have := HL.out; omega
          obtain ⟨ao, m0, c0, hx⟩ := HC.out k hkl
          have hgz := World.block_lt_of_cell? w _ hx.c0
          have cx0 := (hb.cell (by exact hgz)).trans hx.c0
          have cx1 := (hb.cell (by exact hgz)).trans hx.c1
          have cx2 := (hb.cell (by exact hgz)).trans hx.c2
          have cx3 := (hb.cell (by exact hgz)).trans hx.c3
          have cxs := (hb.cell (by exact hgz)).trans hx.cs
          have hm0 : m0 ≤ 9223372036854775807 := by have := HD.out k hkl; have := hx.dat.len; omega
          have HM : Hid (m0 = bs[k].l.length) := hx.dat.len
          have HB : Hid (Below w.heap.size w wr) := hb
          have HDN : Hid (∀ j (hj : j < k) (h : j < bs.length), bs[j].l.length ≤ m) := hdone
          clear hx hb hdone
          generalize hBe : bs[k].e = ge at *
          generalize hBi : bs[k].i = gi at *
          generalize hBr : bs[k].r = gr at *
          generalize hBd : bs[k].d = gd at *
          clear hBe hBi hBr hBd
          by_cases hle : (m0 : Int) ≤ (m' : Int)
          · have HE : Hid (∀ W, Calls Tryz.prog 45 #[frV ge gi gr gd ao m0 c0, .int .i64 (m' : Int)] W fun o w' => o = .returned (.int .i64 ((m' : Int) - (m0 : Int))) ∧ W.alloc (frC ge gi gr gd ao m0 c0 71) = w') := by
              intro W; have := szFrame_any W ge gi gr gd ao m0 c0 m' hm0 (by omega); rw [if_pos hle] at this; exact this
            have hnz2 : ¬ (m' : Int) - (m0 : Int) < 0 := by omega
            go_wp2_with (first | (go_at_call 45; refine (HE.out _).mono ?_; rintro o w5 ⟨rfl, rfl⟩))
            go_roundw
            case rel =>
              refine ⟨k + 1, m' - m0, by omega, by go_num, by go_num, by omega, HB.out.trans (((Below.refl _ _).alloc (Nat.le_refl _) _).mono HB.out.size), fun j hj hjl => ?_⟩
              by_cases e : j = k
              · subst e; have := HM.out; omega
              · exact HDN.out j (by omega) hjl
            case measure => simp [intOf]; omega
          · have HE : Hid (∀ W, Calls Tryz.prog 45 #[frV ge gi gr gd ao m0 c0, .int .i64 (m' : Int)] W fun o w' => o = .returned (.int .i64 (-1)) ∧ W.alloc (frC ge gi gr gd ao m0 c0 71) = w') := by
              intro W; have := szFrame_any W ge gi gr gd ao m0 c0 m' hm0 (by omega); rw [if_neg hle] at this; exact this
            go_wp2_with (first | (go_at_call 45; refine (HE.out _).mono ?_; rintro o w5 ⟨rfl, rfl⟩))
            go_ret
            exact ⟨-1, rfl, HB.out.trans (((Below.refl _ _).alloc (Nat.le_refl _) _).mono HB.out.size), .inl rfl⟩
        · go_wp2
          go_ret
          exact ⟨_, rfl, hb, .inr ⟨m', rfl, hm', hnm, fun j hj => hdone j (by have := HL.out; omega) hj⟩⟩
  · have hneg : (m : Int) - (n : Int) < 0 := by omega
    have hd2 : decide ((m : Int) - (n : Int) < 0) = true := by simpa using hneg
    clear h hd hlen
    go_enter Tryz.func84, Tryz.ntmps84
    go_wp2
    go_ret
    exact ⟨-1, rfl, Below.refl _ _, .inl rfl⟩
set_option maxHeartbeats 2000000 in
set_option maxRecDepth 20000 in
theorem szBoxS_any (w : World) (a : Option Addr) (n cap : Nat) (bs : List R8) (h : isR8s w a n cap bs) (m : Nat) (hm : m ≤ 1048576) (hn : n ≤ 9223372036854775807) (hd : ∀ j (h : j < bs.length), bs[j].l.length ≤ 9223372036854775807) :
    Calls Tryz.prog 83 #[.slice a n cap, .int .i64 (m : Int)] w fun o w' => ∃ z : Int, o = .returned (.int .i64 z) ∧ Below w.heap.size w w' ∧ (z = -1 ∨ ∃ m' : Nat, z = (m' : Int) ∧ m' ≤ m ∧ n ≤ m ∧ ∀ j (h : j < bs.length), bs[j].l.length ≤ m) := by
  have hlen := h.len
  have hcp := h.cap
  by_cases hnm : n ≤ m
  · by_cases hl : bs = []
    · subst hl
      have hn0 : n = 0 := hlen
      subst hn0
      clear hlen h hd
      go_enter Tryz.func83, Tryz.ntmps83
      go_wp2
      go_loopw [1, 5] (fun lf i wr => i = .int .i64 0 ∧ lf = .int .i64 (m : Int) ∧ wr = w) (fun _ _ _ => 0)
      case atStart => exact ⟨rfl, rfl, rfl⟩
      case round =>
        obtain ⟨rfl, rfl, rfl⟩ := hrel
        go_wp2
        go_ret
        exact ⟨_, rfl, Below.refl _ _, .inr ⟨m, rfl, Nat.le_refl _, by omega, fun j hj => by cases hj⟩⟩
    · obtain ⟨g, off, rfl, hc⟩ := h.cells hl
      have HL : Hid (n = bs.length) := hlen
      have HC : Hid (∀ j (h : j < bs.length), ∃ ao m c, at8 w g (off + j * 8) bs[j] ao m c) := hc
      have HD : Hid (∀ j (h : j < bs.length), bs[j].l.length ≤ 9223372036854775807) := hd
      have hnz : ¬ (m : Int) - (n : Int) < 0 := by omega
      clear h hlen hc hd
      go_enter Tryz.func83, Tryz.ntmps83
      go_wp2
      go_loopw [1, 5] (fun lf i wr => ∃ k m' : Nat, k ≤ n ∧ i = .int .i64 (k : Int) ∧ lf = .int .i64 (m' : Int) ∧ m' ≤ m ∧ Below w.heap.size w wr ∧ ∀ j (hj : j < k) (h : j < bs.length), bs[j].l.length ≤ m) (fun _ i _ => n - (intOf i).toNat)
      case atStart => exact ⟨0, m - n, Nat.zero_le _, rfl, by go_num, by omega, Below.refl _ _, fun j hj => absurd hj (Nat.not_lt_zero _)⟩
      case round =>
        obtain ⟨k, m', hk, rfl, rfl, hm', hb, hdone⟩ := hrel
        by_cases hlt : k < n
        · have hkl : k < bs.length := by have := HL.out; omega
          obtain ⟨ao, m0, c0, hx⟩ := HC.out k hkl
          have hgz := World.block_lt_of_cell? w _ hx.c0
          have cx0 := (hb.cell (by exact hgz)).trans hx.c0
          have cx1 := (hb.cell (by exact hgz)).trans hx.c1
          have cx2 := (hb.cell (by exact hgz)).trans hx.c2
          have cx3 := (hb.cell (by exact hgz)).trans hx.c3
          have cx4 := (hb.cell (by exact hgz)).trans hx.c4
          have cx5 := (hb.cell (by exact hgz)).trans hx.c5
          have cx6 := (hb.cell (by exact hgz)).trans hx.c6
          have cxs := (hb.cell (by exact hgz)).trans hx.cs
          have hm0 : m0 ≤ 9223372036854775807 := by have := HD.out k hkl; have := hx.dat.len; omega
          have HM : Hid (m0 = bs[k].l.length) := hx.dat.len
          have HB : Hid (Below w.heap.size w wr) := hb
          have HDN : Hid (∀ j (hj : j < k) (h : j < bs.length), bs[j].l.length ≤ m) := hdone
          clear hx hb hdone
          generalize hBx : bs[k].x = gx at *
          generalize hBy : bs[k].y = gy at *
          generalize hBz : bs[k].z = gz at *
          generalize hBe : bs[k].e = ge at *
          generalize hBi : bs[k].i = gi at *
          generalize hBr : bs[k].r = gr at *
          generalize hBd : bs[k].d = gd at *
          clear hBx hBy hBz hBe hBi hBr hBd
          by_cases hle : (m0 : Int) ≤ (m' : Int)
          · have HE : Hid (∀ W, Calls Tryz.prog 144 #[bxV gx gy gz ge gi gr gd ao m0 c0, .int .i64 (m' : Int)] W fun o w' => o = .returned (.int .i64 ((m' : Int) - (m0 : Int))) ∧ Below W.heap.size W w') := by
              intro W; have := szBox_any W gx gy gz ge gi gr gd ao m0 c0 m' hm0 (by omega); rw [if_pos hle] at this; exact this
            have hnz2 : ¬ (m' : Int) - (m0 : Int) < 0 := by omega
            go_wp2_with (first | (go_at_call 144; refine (HE.out _).mono ?_; rintro o w5 ⟨rfl, hb5⟩))
            go_roundw
            case rel =>
              refine ⟨k + 1, m' - m0, by omega, by go_num, by go_num, by omega, HB.out.trans (hb5.mono HB.out.size), fun j hj hjl => ?_⟩
              by_cases e : j = k
              · subst e; have := HM.out; omega
              · exact HDN.out j (by omega) hjl
            case measure => simp [intOf]; omega
          · have HE : Hid (∀ W, Calls Tryz.prog 144 #[bxV gx gy gz ge gi gr gd ao m0 c0, .int .i64 (m' : Int)] W fun o w' => o = .returned (.int .i64 (-1)) ∧ Below W.heap.size W w') := by
              intro W; have := szBox_any W gx gy gz ge gi gr gd ao m0 c0 m' hm0 (by omega); rw [if_neg hle] at this; exact this
            go_wp2_with (first | (go_at_call 144; refine (HE.out _).mono ?_; rintro o w5 ⟨rfl, hb5⟩))
            go_ret
            exact ⟨-1, rfl, HB.out.trans (hb5.mono HB.out.size), .inl rfl⟩
        · go_wp2
          go_ret
          exact ⟨_, rfl, hb, .inr ⟨m', rfl, hm', hnm, fun j hj => hdone j (by have := HL.out; omega) hj⟩⟩
  · have hneg : (m : Int) - (n : Int) < 0 := by omega
    have hd2 : decide ((m : Int) - (n : Int) < 0) = true := by simpa using hneg
    clear h hd hlen
    go_enter Tryz.func83, Tryz.ntmps83
    go_wp2
    go_ret
    exact ⟨-1, rfl, Below.refl _ _, .inl rfl⟩
set_option maxHeartbeats 2000000 in
set_option maxRecDepth 20000 in
theorem szEventS_any (w : World) (a : Option Addr) (n cap : Nat) (bs : List R8) (h : isR8s w a n cap bs) (m : Nat) (hm : m ≤ 1048576) (hn : n ≤ 9223372036854775807) (hd : ∀ j (h : j < bs.length), bs[j].l.length ≤ 9223372036854775807) :
    Calls Tryz.prog 85 #[.slice a n cap, .int .i64 (m : Int)] w fun o w' => ∃ z : Int, o = .returned (.int .i64 z) ∧ Below w.heap.size w w' ∧ (z = -1 ∨ ∃ m' : Nat, z = (m' : Int) ∧ m' ≤ m ∧ n ≤ m ∧ ∀ j (h : j < bs.length), bs[j].l.length ≤ m) := by
  have hlen := h.len
  have hcp := h.cap
  by_cases hnm : n ≤ m
  · by_cases hl : bs = []
    · subst hl
      have hn0 : n = 0 := hlen
      subst hn0
      clear hlen h hd
      go_enter Tryz.func85, Tryz.ntmps85
      go_wp2
      go_loopw [1, 5] (fun lf i wr => i = .int .i64 0 ∧ lf = .int .i64 (m : Int) ∧ wr = w) (fun _ _ _ => 0)
      case atStart => exact ⟨rfl, rfl, rfl⟩
      case round =>
        obtain ⟨rfl, rfl, rfl⟩ := hrel
        go_wp2
        go_ret
        exact ⟨_, rfl, Below.refl _ _, .inr ⟨m, rfl, Nat.le_refl _, by omega, fun j hj => by cases hj⟩⟩
    · obtain ⟨g, off, rfl, hc⟩ := h.cells hl
      have HL : Hid (n = bs.length) := hlen
      have HC : Hid (∀ j (h : j < bs.length), ∃ ao m c, at8 w g (off + j * 8) bs[j] ao m c) := hc
      have HD : Hid (∀ j (h : j < bs.length), bs[j].l.length ≤ 9223372036854775807) := hd
      have hnz : ¬ (m : Int) - (n : Int) < 0 := by omega
      clear h hlen hc hd
      go_enter Tryz.func85, Tryz.ntmps85
      go_wp2
      go_loopw [1, 5] (fun lf i wr => ∃ k m' : Nat, k ≤ n ∧ i = .int .i64 (k : Int) ∧ lf = .int .i64 (m' : Int) ∧ m' ≤ m ∧ Below w.heap.size w wr ∧ ∀ j (hj : j < k) (h : j < bs.length), bs[j].l.length ≤ m) (fun _ i _ => n - (intOf i).toNat)
      case atStart => exact ⟨0, m - n, Nat.zero_le _, rfl, by go_num, by omega, Below.refl _ _, fun j hj => absurd hj (Nat.not_lt_zero _)⟩
      case round =>
        obtain ⟨k, m', hk, rfl, rfl, hm', hb, hdone⟩ := hrel
        by_cases hlt : k < n
        · have hkl : k < bs.length := by have := HL.out; omega
          obtain ⟨ao, m0, c0, hx⟩ := HC.out k hkl
          have hgz := World.block_lt_of_cell? w _ hx.c0
          have cx0 := (hb.cell (by exact hgz)).trans hx.c0
          have cx1 := (hb.cell (by exact hgz)).trans hx.c1
          have cx2 := (hb.cell (by exact hgz)).trans hx.c2
          have cx3 := (hb.cell (by exact hgz)).trans hx.c3
          have cx4 := (hb.cell (by exact hgz)).trans hx.c4
          have cx5 := (hb.cell (by exact hgz)).trans hx.c5
          have cx6 := (hb.cell (by exact hgz)).trans hx.c6
          have cxs := (hb.cell (by exact hgz)).trans hx.cs
          have hm0 : m0 ≤ 9223372036854775807 := by have := HD.out k hkl; have := hx.dat.len; omega
          have HM : Hid (m0 = bs[k].l.length) := hx.dat.len
          have HB : Hid (Below w.heap.size w wr) := hb
          have HDN : Hid (∀ j (hj : j < k) (h : j < bs.length), bs[j].l.length ≤ m) := hdone
          clear hx hb hdone
          generalize hBx : bs[k].x = gx at *
          generalize hBy : bs[k].y = gy at *
          generalize hBz : bs[k].z = gz at *
          generalize hBe : bs[k].e = ge at *
          generalize hBi : bs[k].i = gi at *
          generalize hBr : bs[k].r = gr at *
          generalize hBd : bs[k].d = gd at *
          clear hBx hBy hBz hBe hBi hBr hBd
          by_cases hle : (m0 : Int) ≤ (m' : Int)
          · have HE : Hid (∀ W, Calls Tryz.prog 145 #[bxV gx gy gz ge gi gr gd ao m0 c0, .int .i64 (m' : Int)] W fun o w' => o = .returned (.int .i64 ((m' : Int) - (m0 : Int))) ∧ Below W.heap.size W w') := by
              intro W; have := szEvent_any W gx gy gz ge gi gr gd ao m0 c0 m' hm0 (by omega); rw [if_pos hle] at this; exact this
            have hnz2 : ¬ (m' : Int) - (m0 : Int) < 0 := by omega
            go_wp2_with (first | (go_at_call 145; refine (HE.out _).mono ?_; rintro o w5 ⟨rfl, hb5⟩))
            go_roundw
            case rel =>
              refine ⟨k + 1, m' - m0, by omega, by go_num, by go_num, by omega, HB.out.trans (hb5.mono HB.out.size), fun j hj hjl => ?_⟩
              by_cases e : j = k
              · subst e; have := HM.out; omega
              · exact HDN.out j (by omega) hjl
            case measure => simp [intOf]; omega
          · have HE : Hid (∀ W, Calls Tryz.prog 145 #[bxV gx gy gz ge gi gr gd ao m0 c0, .int .i64 (m' : Int)] W fun o w' => o = .returned (.int .i64 (-1)) ∧ Below W.heap.size W w') := by
              intro W; have := szEvent_any W gx gy gz ge gi gr gd ao m0 c0 m' hm0 (by omega); rw [if_neg hle] at this; exact this
            go_wp2_with (first | (go_at_call 145; refine (HE.out _).mono ?_; rintro o w5 ⟨rfl, hb5⟩))
            go_ret
            exact ⟨-1, rfl, HB.out.trans (hb5.mono HB.out.size), .inl rfl⟩
        · go_wp2
          go_ret
          exact ⟨_, rfl, hb, .inr ⟨m', rfl, hm', hnm, fun j hj => hdone j (by have := HL.out; omega) hj⟩⟩
  · have hneg : (m : Int) - (n : Int) < 0 := by omega
    have hd2 : decide ((m : Int) - (n : Int) < 0) = true := by simpa using hneg
    clear h hd hlen
    go_enter Tryz.func85, Tryz.ntmps85
    go_wp2
    go_ret
    exact ⟨-1, rfl, Below.refl _ _, .inl rfl⟩
theorem szFilterS_any (w : World) (a : Option Addr) (n cap : Nat) (m : Nat) (hn : n ≤ 9223372036854775807) (hm : m ≤ 1048576) :
    Calls Tryz.prog 82 #[.slice a n cap, .int .i64 m] w fun o w' => o = .returned (.int .i64 (if (n : Int) ≤ (m : Int) then (m : Int) - (n : Int) else -1)) ∧ w = w' := by
  by_cases h : (n : Int) ≤ (m : Int)
  · rw [if_pos h]
    go_enter Tryz.func82, Tryz.ntmps82
    go_wp2
    go_ret
    exact ⟨rfl, rfl⟩
  · rw [if_neg h]
    go_enter Tryz.func82, Tryz.ntmps82
    go_wp2
    go_ret
    exact ⟨rfl, rfl⟩
end Go.Proofs.YtaamahohdnbpiaaGreat
namespace Go.Proofs.YtaamahohdnbpiaaGreat
open Go.RowKit
structure Keep2 (b : Nat) (X w' : World) : Prop where
  cp : ∀ o, w'.cell? ⟨b, o, none⟩ = X.cell? ⟨b, o, none⟩
  cr : ∀ o, w'.cell? ⟨b + 1, o, none⟩ = X.cell? ⟨b + 1, o, none⟩
theorem keep2 {b : Nat} {X w' : World} (hb : Below X.heap.size X w') (hz : b + 2 ≤ X.heap.size) : Keep2 b X w' :=
  ⟨fun o => hb.cell (p := ⟨b, o, none⟩) (by show b < _; omega), fun o => hb.cell (p := ⟨b + 1, o, none⟩) (by show b + 1 < _; omega)⟩
theorem ceqFilter {w X : World} (hX : Below w.heap.size w X) (hz : w.heap.size + 2 ≤ X.heap.size) {a a' : Option Addr} {n cap n' cap' : Nat} {bs : List R3} (h : isR3s w a n cap bs) (h' : isR3s w a' n' cap' bs) (hn : bs.length ≤ 1048576) :
    Calls Tryz.prog 92 #[.slice a n cap, .slice a' n' cap'] X fun e w' => e = .returned (.bool true) ∧ Below w.heap.size w w' ∧ w.heap.size + 2 ≤ w'.heap.size ∧ Keep2 w.heap.size X w' := by
  refine (eqFilterS_same X a a' n cap n' cap' bs (h.below hX) (h'.below hX) (by have := h.len; omega)).mono ?_
  rintro e w' ⟨rfl, h2⟩
  exact ⟨rfl, hX.trans (h2.mono hX.size), Nat.le_trans hz h2.size, keep2 h2 hz⟩
theorem ceqBox {w X : World} (hX : Below w.heap.size w X) (hz : w.heap.size + 2 ≤ X.heap.size) {a a' : Option Addr} {n cap n' cap' : Nat} {bs : List R8} (h : isR8s w a n cap bs) (h' : isR8s w a' n' cap' bs) (hn : bs.length ≤ 1048576) (hd : ∀ j (h : j < bs.length), bs[j].l.length ≤ 1048576) :
    Calls Tryz.prog 93 #[.slice a n cap, .slice a' n' cap'] X fun e w' => e = .returned (.bool true) ∧ Below w.heap.size w w' ∧ w.heap.size + 2 ≤ w'.heap.size ∧ Keep2 w.heap.size X w' := by
  refine (eqBoxS_same X a a' n cap n' cap' bs (h.below hX) (h'.below hX) (by have := h.len; omega) hd).mono ?_
  rintro e w' ⟨rfl, h2⟩
  exact ⟨rfl, hX.trans (h2.mono hX.size), Nat.le_trans hz h2.size, keep2 h2 hz⟩
theorem ceqFrame {w X : World} (hX : Below w.heap.size w X) (hz : w.heap.size + 2 ≤ X.heap.size) {a a' : Option Addr} {n cap n' cap' : Nat} {bs : List R5} (h : isR5s w a n cap bs) (h' : isR5s w a' n' cap' bs) (hn : bs.length ≤ 1048576) (hd : ∀ j (h : j < bs.length), bs[j].l.length ≤ 1048576) :
    Calls Tryz.prog 94 #[.slice a n cap, .slice a' n' cap'] X fun e w' => e = .returned (.bool true) ∧ Below w.heap.size w w' ∧ w.heap.size + 2 ≤ w'.heap.size ∧ Keep2 w.heap.size X w' := by
  refine (eqFrameS_same X a a' n cap n' cap' bs (h.below hX) (h'.below hX) (by have := h.len; omega) hd).mono ?_
  rintro e w' ⟨rfl, h2⟩
  exact ⟨rfl, hX.trans (h2.mono hX.size), Nat.le_trans hz h2.size, keep2 h2 hz⟩
theorem ceqEvent {w X : World} (hX : Below w.heap.size w X) (hz : w.heap.size + 2 ≤ X.heap.size) {a a' : Option Addr} {n cap n' cap' : Nat} {bs : List R8} (h : isR8s w a n cap bs) (h' : isR8s w a' n' cap' bs) (hn : bs.length ≤ 1048576) (hd : ∀ j (h : j < bs.length), bs[j].l.length ≤ 1048576) :
    Calls Tryz.prog 38 #[.slice a n cap, .slice a' n' cap'] X fun e w' => e = .returned (.bool true) ∧ Below w.heap.size w w' ∧ w.heap.size + 2 ≤ w'.heap.size ∧ Keep2 w.heap.size X w' := by
  refine (eqEventS_same X a a' n cap n' cap' bs (h.below hX) (h'.below hX) (by have := h.len; omega) hd).mono ?_
  rintro e w' ⟨rfl, h2⟩
  exact ⟨rfl, hX.trans (h2.mono hX.size), Nat.le_trans hz h2.size, keep2 h2 hz⟩
theorem ceqConfig {w X : World} (hX : Below w.heap.size w X) (hz : w.heap.size + 2 ≤ X.heap.size) (a b c d : Int) :
    Calls Tryz.prog 91 #[cfV a b c d, cfV a b c d] X fun e w' => e = .returned (.bool true) ∧ Below w.heap.size w w' ∧ w.heap.size + 2 ≤ w'.heap.size ∧ Keep2 w.heap.size X w' := by
  refine (eqConfig_same X a b c d).mono ?_
  rintro e w' ⟨rfl, h2⟩
  exact ⟨rfl, hX.trans (h2.mono hX.size), Nat.le_trans hz h2.size, keep2 h2 hz⟩
set_option maxHeartbeats 4000000 in
set_option maxRecDepth 20000 in
theorem eqHost_same (w : World) (H : Ho) (s s' : Sl) (h : isHo w H s) (h' : isHo w H s') (hn : H.le 1048576) :
    Calls Tryz.prog 37 #[hoV H s, hoV H s'] w fun o w' => o = .returned (.bool true) ∧ Below w.heap.size w w' := by
  have HH : Hid (isHo w H s) := h
  have HH' : Hid (isHo w H s') := h'
  have HN : Hid (H.le 1048576) := hn
  clear h h' hn
  obtain ⟨c0, c1, c2, c3, fs, bx, ff, qu, lo, st⟩ := H
  obtain ⟨a1, n1, k1, a2, n2, k2, a3, n3, k3, a4, n4, k4⟩ := s
  obtain ⟨b1, m1, l1, b2, m2, l2, b3, m3, l3, b4, m4, l4⟩ := s'
  have hlo : (lo != lo) = false := by simp
  have hst : (st != st) = false := by simp
  go_enter Tryz.func37, Tryz.ntmps37
  go_wp2_with (first | (go_at_call 91; refine (ceqConfig (w := w) (((Below.refl _ _).alloc (Nat.le_refl _) _).alloc (by simp) _) (by simp) _ _ _ _).mono ?_; rintro o w1 ⟨rfl, B1, Z1, K1⟩; obtain ⟨cp1, cr1⟩ := K1; have HB1 : Hid (Below w.heap.size w w1) := B1; have HZ1 : Hid (w.heap.size + 2 ≤ w1.heap.size) := Z1; clear B1 Z1) | (go_at_call 92; refine (ceqFilter HB1.out HZ1.out HH.out.fs HH'.out.fs HN.out.fs).mono ?_; rintro o w2 ⟨rfl, B2, Z2, K2⟩; obtain ⟨cp2, cr2⟩ := K2; have HB2 : Hid (Below w.heap.size w w2) := B2; have HZ2 : Hid (w.heap.size + 2 ≤ w2.heap.size) := Z2; clear B2 Z2) | (go_at_call 93; refine (ceqBox HB2.out HZ2.out HH.out.bx HH'.out.bx HN.out.bx HN.out.bd).mono ?_; rintro o w3 ⟨rfl, B3, Z3, K3⟩; obtain ⟨cp3, cr3⟩ := K3; have HB3 : Hid (Below w.heap.size w w3) := B3; have HZ3 : Hid (w.heap.size + 2 ≤ w3.heap.size) := Z3; clear B3 Z3) | (go_at_call 94; refine (ceqFrame HB3.out HZ3.out HH.out.ff HH'.out.ff HN.out.ff HN.out.fd).mono ?_; rintro o w4 ⟨rfl, B4, Z4, K4⟩; obtain ⟨cp4, cr4⟩ := K4; have HB4 : Hid (Below w.heap.size w w4) := B4; have HZ4 : Hid (w.heap.size + 2 ≤ w4.heap.size) := Z4; clear B4 Z4) | (go_at_call 38; refine (ceqEvent HB4.out HZ4.out HH.out.qu HH'.out.qu HN.out.qu HN.out.qd).mono ?_; rintro o w5 ⟨rfl, B5, Z5, K5⟩; obtain ⟨cp5, cr5⟩ := K5; have HB5 : Hid (Below w.heap.size w w5) := B5; have HZ5 : Hid (w.heap.size + 2 ≤ w5.heap.size) := Z5; clear B5 Z5))
  go_ret
  exact ⟨rfl, HB5.out⟩
end Go.Proofs.YtaamahohdnbpiaaGreat
