import Derived.Test.YtaamahohdnbpiaaGreatG01
import Derived.Test.YtaamahohdnbpiaaGreatG02
namespace Go.Proofs.YtaamahohdnbpiaaGreat
open Go.RowKit
set_option maxHeartbeats 2000000 in
set_option maxRecDepth 20000 in
theorem szFrameS_any (w : World) (a : Option Addr) (n cap : Nat) (bs : List R5) (h : isR5s w a n cap bs) (m : Nat) (hm : m ≤ 1048576) (hn : n ≤ 9223372036854775807) (hd : ∀ j (h : j < bs.length), bs[j].l.length ≤ 9223372036854775807) :
    Calls Tryz.prog 84 #[.slice a n cap, .int .i64 (m : Int)] w fun o w' => ∃ z : Int, o = .returned (.int .i64 z) ∧ Below w.heap.size w w' ∧ (z = -1 ∨ ∃ m' : Nat, z = (m' : Int) ∧ m' ≤ m ∧ n ≤ m ∧ ∀ j (h : j < bs.length), bs[j].l.length ≤ m) := by
  have hlen := h.len
  have hcp := h.cap
  by_cases hnm : n ≤ m
  · by_cases hl : bs = []
    · subst hl
      have hn0 : n = 0 := hlen
      subst hn0
      clear hlen h hd
      go_enter Tryz.func84, Tryz.ntmps84
      go_wp2
      go_loopw [1, 5] (fun lf i wr => i = .int .i64 0 ∧ lf = .int .i64 (m : Int) ∧ wr = w) (fun _ _ _ => 0)
      case atStart => exact ⟨rfl, rfl, rfl⟩
      case round =>
        obtain ⟨rfl, rfl, rfl⟩ := hrel
        go_wp2
        go_ret
        exact ⟨_, rfl, Below.refl _ _, .inr ⟨m, rfl, Nat.le_refl _, by omega, fun j hj => by cases hj⟩⟩
    · obtain ⟨g, off, rfl, hc⟩ := h.cells hl
      have HL : Hid (n = bs.length) := hlen
      have HC : Hid (∀ j (h : j < bs.length), ∃ ao m c, at5 w g (off + j * 5) bs[j] ao m c) := hc
      have HD : Hid (∀ j (h : j < bs.length), bs[j].l.length ≤ 9223372036854775807) := hd
      have hnz : ¬ (m : Int) - (n : Int) < 0 := by omega
      clear h hlen hc hd
      go_enter Tryz.func84, Tryz.ntmps84
      go_wp2
      go_loopw [1, 5] (fun lf i wr => ∃ k m' : Nat, k ≤ n ∧ i = .int .i64 (k : Int) ∧ lf = .int .i64 (m' : Int) ∧ m' ≤ m ∧ Below w.heap.size w wr ∧ ∀ j (hj : j < k) (h : j < bs.length), bs[j].l.length ≤ m) (fun _ i _ => n - (intOf i).toNat)
      case atStart => exact ⟨0, m - n, Nat.zero_le _, rfl, by go_num, by omega, Below.refl _ _, fun j hj => absurd hj (Nat.not_lt_zero _)⟩
      case round =>
        obtain ⟨k, m', hk, rfl, rfl, hm', hb, hdone⟩ := hrel
        by_cases hlt : k < n
        · have hkl : k < bs.length := by have := HL.out; omega
          obtain ⟨ao, m0, c0, hx⟩ := HC.out k hkl
          have hgz := World.block_lt_of_cell? w _ hx.c0
          have cx0 := (hb.cell (by exact hgz)).trans hx.c0
          have cx1 := (hb.cell (by exact hgz)).trans hx.c1
          have cx2 := (hb.cell (by exact hgz)).trans hx.c2
          have cx3 := (hb.cell (by exact hgz)).trans hx.c3
          have cxs := (hb.cell (by exact hgz)).trans hx.cs
          have hm0 : m0 ≤ 9223372036854775807 := by have := HD.out k hkl; have := hx.dat.len; omega
          have HM : Hid (m0 = bs[k].l.length) := hx.dat.len
          have HB : Hid (Below w.heap.size w wr) := hb
          have HDN : Hid (∀ j (hj : j < k) (h : j < bs.length), bs[j].l.length ≤ m) := hdone
          clear hx hb hdone
          generalize hBe : bs[k].e = ge at *
          generalize hBi : bs[k].i = gi at *
          generalize hBr : bs[k].r = gr at *
          generalize hBd : bs[k].d = gd at *
          clear hBe hBi hBr hBd
          by_cases hle : (m0 : Int) ≤ (m' : Int)
          · have HE : Hid (∀ W, Calls Tryz.prog 45 #[frV ge gi gr gd ao m0 c0, .int .i64 (m' : Int)] W fun o w' => o = .returned (.int .i64 ((m' : Int) - (m0 : Int))) ∧ W.alloc (frC ge gi gr gd ao m0 c0 71) = w') := by
              intro W; have := szFrame_any W ge gi gr gd ao m0 c0 m' hm0 (by omega); rw [if_pos hle] at this; exact this
            have hnz2 : ¬ (m' : Int) - (m0 : Int) < 0 := by omega
            go_wp2_with (first | (go_at_call 45; refine (HE.out _).mono ?_; rintro o w5 ⟨rfl, rfl⟩))
            go_roundw
            case rel =>
              refine ⟨k + 1, m' - m0, by omega, by go_num, by go_num, by omega, HB.out.trans (((Below.refl _ _).alloc (Nat.le_refl _) _).mono HB.out.size), fun j hj hjl => ?_⟩
              by_cases e : j = k
              · subst e; have := HM.out; omega
              · exact HDN.out j (by omega) hjl
            case measure => simp [intOf]; omega
          · have HE : Hid (∀ W, Calls Tryz.prog 45 #[frV ge gi gr gd ao m0 c0, .int .i64 (m' : Int)] W fun o w' => o = .returned (.int .i64 (-1)) ∧ W.alloc (frC ge gi gr gd ao m0 c0 71) = w') := by
              intro W; have := szFrame_any W ge gi gr gd ao m0 c0 m' hm0 (by omega); rw [if_neg hle] at this; exact this
            go_wp2_with (first | (go_at_call 45; refine (HE.out _).mono ?_; rintro o w5 ⟨rfl, rfl⟩))
            go_ret
            exact ⟨-1, rfl, HB.out.trans (((Below.refl _ _).alloc (Nat.le_refl _) _).mono HB.out.size), .inl rfl⟩
        · go_wp2
          go_ret
          exact ⟨_, rfl, hb, .inr ⟨m', rfl, hm', hnm, fun j hj => hdone j (by have := HL.out; omega) hj⟩⟩
  · have hneg : (m : Int) - (n : Int) < 0 := by omega
    have hd2 : decide ((m : Int) - (n : Int) < 0) = true := by simpa using hneg
    clear h hd hlen
    go_enter Tryz.func84, Tryz.ntmps84
    go_wp2
    go_ret
    exact ⟨-1, rfl, Below.refl _ _, .inl rfl⟩
set_option maxHeartbeats 2000000 in
set_option maxRecDepth 20000 in
theorem szBoxS_any (w : World) (a : Option Addr) (n cap : Nat) (bs : List R8) (h : isR8s w a n cap bs) (m : Nat) (hm : m ≤ 1048576) (hn : n ≤ 9223372036854775807) (hd : ∀ j (h : j < bs.length), bs[j].l.length ≤ 9223372036854775807) :
    Calls Tryz.prog 83 #[.slice a n cap, .int .i64 (m : Int)] w fun o w' => ∃ z : Int, o = .returned (.int .i64 z) ∧ Below w.heap.size w w' ∧ (z = -1 ∨ ∃ m' : Nat, z = (m' : Int) ∧ m' ≤ m ∧ n ≤ m ∧ ∀ j (h : j < bs.length), bs[j].l.length ≤ m) := by
  have hlen := h.len
  have hcp := h.cap
  by_cases hnm : n ≤ m
  · by_cases hl : bs = []
    · subst hl
      have hn0 : n = 0 := hlen
      subst hn0
      clear hlen h hd
      go_enter Tryz.func83, Tryz.ntmps83
      go_wp2
      go_loopw [1, 5] (fun lf i wr => i = .int .i64 0 ∧ lf = .int .i64 (m : Int) ∧ wr = w) (fun _ _ _ => 0)
      case atStart => exact ⟨rfl, rfl, rfl⟩
      case round =>
        obtain ⟨rfl, rfl, rfl⟩ := hrel
        go_wp2
        go_ret
        exact ⟨_, rfl, Below.refl _ _, .inr ⟨m, rfl, Nat.le_refl _, by omega, fun j hj => by cases hj⟩⟩
    · obtain ⟨g, off, rfl, hc⟩ := h.cells hl
      have HL : Hid (n = bs.length) := hlen
      have HC : Hid (∀ j (h : j < bs.length), ∃ ao m c, at8 w g (off + j * 8) bs[j] ao m c) := hc
      have HD : Hid (∀ j (h : j < bs.length), bs[j].l.length ≤ 9223372036854775807) := hd
      have hnz : ¬ (m : Int) - (n : Int) < 0 := by omega
      clear h hlen hc hd
      go_enter Tryz.func83, Tryz.ntmps83
      go_wp2
      go_loopw [1, 5] (fun lf i wr => ∃ k m' : Nat, k ≤ n ∧ i = .int .i64 (k : Int) ∧ lf = .int .i64 (m' : Int) ∧ m' ≤ m ∧ Below w.heap.size w wr ∧ ∀ j (hj : j < k) (h : j < bs.length), bs[j].l.length ≤ m) (fun _ i _ => n - (intOf i).toNat)
      case atStart => exact ⟨0, m - n, Nat.zero_le _, rfl, by go_num, by omega, Below.refl _ _, fun j hj => absurd hj (Nat.not_lt_zero _)⟩
      case round =>
        obtain ⟨k, m', hk, rfl, rfl, hm', hb, hdone⟩ := hrel
        by_cases hlt : k < n
        · have hkl : k < bs.length := by have := HL.out; omega
          obtain ⟨ao, m0, c0, hx⟩ := HC.out k hkl
          have hgz := World.block_lt_of_cell? w _ hx.c0
          have cx0 := (hb.cell (by exact hgz)).trans hx.c0
          have cx1 := (hb.cell (by exact hgz)).trans hx.c1
          have cx2 := (hb.cell (by exact hgz)).trans hx.c2
          have cx3 := (hb.cell (by exact hgz)).trans hx.c3
          have cx4 := (hb.cell (by exact hgz)).trans hx.c4
          have cx5 := (hb.cell (by exact hgz)).trans hx.c5
          have cx6 := (hb.cell (by exact hgz)).trans hx.c6
          have cxs := (hb.cell (by exact hgz)).trans hx.cs
          have hm0 : m0 ≤ 9223372036854775807 := by have := HD.out k hkl; have := hx.dat.len; omega
          have HM : Hid (m0 = bs[k].l.length) := hx.dat.len
          have HB : Hid (Below w.heap.size w wr) := hb
          have HDN : Hid (∀ j (hj : j < k) (h : j < bs.length), bs[j].l.length ≤ m) := hdone
          clear hx hb hdone
          generalize hBx : bs[k].x = gx at *
          generalize hBy : bs[k].y = gy at *
          generalize hBz : bs[k].z = gz at *
          generalize hBe : bs[k].e = ge at *
          generalize hBi : bs[k].i = gi at *
          generalize hBr : bs[k].r = gr at *
          generalize hBd : bs[k].d = gd at *
          clear hBx hBy hBz hBe hBi hBr hBd
          by_cases hle : (m0 : Int) ≤ (m' : Int)
          · have HE : Hid (∀ W, Calls Tryz.prog 144 #[bxV gx gy gz ge gi gr gd ao m0 c0, .int .i64 (m' : Int)] W fun o w' => o = .returned (.int .i64 ((m' : Int) - (m0 : Int))) ∧ Below W.heap.size W w') := by
              intro W; have := szBox_any W gx gy gz ge gi gr gd ao m0 c0 m' hm0 (by omega); rw [if_pos hle] at this; exact this
            have hnz2 : ¬ (m' : Int) - (m0 : Int) < 0 := by omega
            go_wp2_with (first | (go_at_call 144; refine (HE.out _).mono ?_; rintro o w5 ⟨rfl, hb5⟩))
            go_roundw
            case rel =>
              refine ⟨k + 1, m' - m0, by omega, by go_num, by go_num, by omega, HB.out.trans (hb5.mono HB.out.size), fun j hj hjl => ?_⟩
              by_cases e : j = k
              · subst e; have := HM.out; omega
              · exact HDN.out j (by omega) hjl
            case measure => simp [intOf]; omega
          · have HE : Hid (∀ W, Calls Tryz.prog 144 #[bxV gx gy gz ge gi gr gd ao m0 c0, .int .i64 (m' : Int)] W fun o w' => o = .returned (.int .i64 (-1)) ∧ Below W.heap.size W w') := by
              intro W; have := szBox_any W gx gy gz ge gi gr gd ao m0 c0 m' hm0 (by omega); rw [if_neg hle] at this; exact this
            go_wp2_with (first | (go_at_call 144; refine (HE.out _).mono ?_; rintro o w5 ⟨rfl, hb5⟩))
            go_ret
            exact ⟨-1, rfl, HB.out.trans (hb5.mono HB.out.size), .inl rfl⟩
        · go_wp2
          go_ret
          exact ⟨_, rfl, hb, .inr ⟨m', rfl, hm', hnm, fun j hj => hdone j (by have := HL.out; omega) hj⟩⟩
  · have hneg : (m : Int) - (n : Int) < 0 := by omega
    have hd2 : decide ((m : Int) - (n : Int) < 0) = true := by simpa using hneg
    clear h hd hlen
    go_enter Tryz.func83, Tryz.ntmps83
    go_wp2
    go_ret
    exact ⟨-1, rfl, Below.refl _ _, .inl rfl⟩
set_option maxHeartbeats 2000000 in
set_option maxRecDepth 20000 in
theorem szEventS_any (w : World) (a : Option Addr) (n cap : Nat) (bs : List R8) (h : isR8s w a n cap bs) (m : Nat) (hm : m ≤ 1048576) (hn : n ≤ 9223372036854775807) (hd : ∀ j (h : j < bs.length), bs[j].l.length ≤ 9223372036854775807) :
    Calls Tryz.prog 85 #[.slice a n cap, .int .i64 (m : Int)] w fun o w' => ∃ z : Int, o = .returned (.int .i64 z) ∧ Below w.heap.size w w' ∧ (z = -1 ∨ ∃ m' : Nat, z = (m' : Int) ∧ m' ≤ m ∧ n ≤ m ∧ ∀ j (h : j < bs.length), bs[j].l.length ≤ m) := by
  have hlen := h.len
  have hcp := h.cap
  by_cases hnm : n ≤ m
  · by_cases hl : bs = []
    · subst hl
      have hn0 : n = 0 := hlen
      subst hn0
      clear hlen h hd
      go_enter Tryz.func85, Tryz.ntmps85
      go_wp2
      go_loopw [1, 5] (fun lf i wr => i = .int .i64 0 ∧ lf = .int .i64 (m : Int) ∧ wr = w) (fun _ _ _ => 0)
      case atStart => exact ⟨rfl, rfl, rfl⟩
      case round =>
        obtain ⟨rfl, rfl, rfl⟩ := hrel
        go_wp2
        go_ret
        exact ⟨_, rfl, Below.refl _ _, .inr ⟨m, rfl, Nat.le_refl _, by omega, fun j hj => by cases hj⟩⟩
    · obtain ⟨g, off, rfl, hc⟩ := h.cells hl
      have HL : Hid (n = bs.length) := hlen
      have HC : Hid (∀ j (h : j < bs.length), ∃ ao m c, at8 w g (off + j * 8) bs[j] ao m c) := hc
      have HD : Hid (∀ j (h : j < bs.length), bs[j].l.length ≤ 9223372036854775807) := hd
      have hnz : ¬ (m : Int) - (n : Int) < 0 := by omega
      clear h hlen hc hd
      go_enter Tryz.func85, Tryz.ntmps85
      go_wp2
      go_loopw [1, 5] (fun lf i wr => ∃ k m' : Nat, k ≤ n ∧ i = .int .i64 (k : Int) ∧ lf = .int .i64 (m' : Int) ∧ m' ≤ m ∧ Below w.heap.size w wr ∧ ∀ j (hj : j < k) (h : j < bs.length), bs[j].l.length ≤ m) (fun _ i _ => n - (intOf i).toNat)
      case atStart => exact ⟨0, m - n, Nat.zero_le _, rfl, by go_num, by omega, Below.refl _ _, fun j hj => absurd hj (Nat.not_lt_zero _)⟩
      case round =>
        obtain ⟨k, m', hk, rfl, rfl, hm', hb, hdone⟩ := hrel
        by_cases hlt : k < n
        · have hkl : k < bs.length := by have := HL.out; omega
          obtain ⟨ao, m0, c0, hx⟩ := HC.out k hkl
          have hgz := World.block_lt_of_cell? w _ hx.c0
          have cx0 := (hb.cell (by exact hgz)).trans hx.c0
          have cx1 := (hb.cell (by exact hgz)).trans hx.c1
          have cx2 := (hb.cell (by exact hgz)).trans hx.c2
          have cx3 := (hb.cell (by exact hgz)).trans hx.c3
          have cx4 := (hb.cell (by exact hgz)).trans hx.c4
          have cx5 := (hb.cell (by exact hgz)).trans hx.c5
          have cx6 := (hb.cell (by exact hgz)).trans hx.c6
          have cxs := (hb.cell (by exact hgz)).trans hx.cs
          have hm0 : m0 ≤ 9223372036854775807 := by have := HD.out k hkl; have := hx.dat.len; omega
          have HM : Hid (m0 = bs[k].l.length) := hx.dat.len
          have HB : Hid (Below w.heap.size w wr) := hb
          have HDN : Hid (∀ j (hj : j < k) (h : j < bs.length), bs[j].l.length ≤ m) := hdone
          clear hx hb hdone
          generalize hBx : bs[k].x = gx at *
          generalize hBy : bs[k].y = gy at *
          generalize hBz : bs[k].z = gz at *
          generalize hBe : bs[k].e = ge at *
          generalize hBi : bs[k].i = gi at *
          generalize hBr : bs[k].r = gr at *
          generalize hBd : bs[k].d = gd at *
          clear hBx hBy hBz hBe hBi hBr hBd
          by_cases hle : (m0 : Int) ≤ (m' : Int)
          · have HE : Hid (∀ W, Calls Tryz.prog 145 #[bxV gx gy gz ge gi gr gd ao m0 c0, .int .i64 (m' : Int)] W fun o w' => o = .returned (.int .i64 ((m' : Int) - (m0 : Int))) ∧ Below W.heap.size W w') := by
              intro W; have := szEvent_any W gx gy gz ge gi gr gd ao m0 c0 m' hm0 (by omega); rw [if_pos hle] at this; exact this
            have hnz2 : ¬ (m' : Int) - (m0 : Int) < 0 := by omega
            go_wp2_with (first | (go_at_call 145; refine (HE.out _).mono ?_; rintro o w5 ⟨rfl, hb5⟩))
            go_roundw
            case rel =>
              refine ⟨k + 1, m' - m0, by omega, by go_num, by go_num, by omega, HB.out.trans (hb5.mono HB.out.size), fun j hj hjl => ?_⟩
              by_cases e : j = k
              · subst e; have := HM.out; omega
              · exact HDN.out j (by omega) hjl
            case measure => simp [intOf]; omega
          · have HE : Hid (∀ W, Calls Tryz.prog 145 #[bxV gx gy gz ge gi gr gd ao m0 c0, .int .i64 (m' : Int)] W fun o w' => o = .returned (.int .i64 (-1)) ∧ Below W.heap.size W w') := by
              intro W; have := szEvent_any W gx gy gz ge gi gr gd ao m0 c0 m' hm0 (by omega); rw [if_neg hle] at this; exact this
            go_wp2_with (first | (go_at_call 145; refine (HE.out _).mono ?_; rintro o w5 ⟨rfl, hb5⟩))
            go_ret
            exact ⟨-1, rfl, HB.out.trans (hb5.mono HB.out.size), .inl rfl⟩
        · go_wp2
          go_ret
          exact ⟨_, rfl, hb, .inr ⟨m', rfl, hm', hnm, fun j hj => hdone j (by have := HL.out; omega) hj⟩⟩
  · have hneg : (m : Int) - (n : Int) < 0 := by omega
    have hd2 : decide ((m : Int) - (n : Int) < 0) = true := by simpa using hneg
    clear h hd hlen
    go_enter Tryz.func85, Tryz.ntmps85
    go_wp2
    go_ret
    exact ⟨-1, rfl, Below.refl _ _, .inl rfl⟩
theorem szFilterS_any (w : World) (a : Option Addr) (n cap : Nat) (m : Nat) (hn : n ≤ 9223372036854775807) (hm : m ≤ 1048576) :
    Calls Tryz.prog 82 #[.slice a n cap, .int .i64 m] w fun o w' => o = .returned (.int .i64 (if (n : Int) ≤ (m : Int) then (m : Int) - (n : Int) else -1)) ∧ w = w' := by
  by_cases h : (n : Int) ≤ (m : Int)
  · rw [if_pos h]
    go_enter Tryz.func82, Tryz.ntmps82
    go_wp2
    go_ret
    exact ⟨rfl, rfl⟩
  · rw [if_neg h]
    go_enter Tryz.func82, Tryz.ntmps82
    go_wp2
    go_ret
    exact ⟨rfl, rfl⟩
end Go.Proofs.YtaamahohdnbpiaaGreat
namespace Go.Proofs.YtaamahohdnbpiaaGreat
open Go.RowKit
structure Keep2 (b : Nat) (X w' : World) : Prop where
  cp : ∀ o, w'.cell? ⟨b, o, none⟩ = X.cell? ⟨b, o, none⟩
  cr : ∀ o, w'.cell? ⟨b + 1, o, none⟩ = X.cell? ⟨b + 1, o, none⟩
theorem keep2 {b : Nat} {X w' : World} (hb : Below X.heap.size X w') (hz : b + 2 ≤ X.heap.size) : Keep2 b X w' :=
  ⟨fun o => hb.cell (p := ⟨b, o, none⟩) (by show b < _; omega), fun o => hb.cell (p := ⟨b + 1, o, none⟩) (by show b + 1 < _; omega)⟩
theorem ceqFilter {w X : World} (hX : Below w.heap.size w X) (hz : w.heap.size + 2 ≤ X.heap.size) {a a' : Option Addr} {n cap n' cap' : Nat} {bs : List R3} (h : isR3s w a n cap bs) (h' : isR3s w a' n' cap' bs) (hn : bs.length ≤ 1048576) :
    Calls Tryz.prog 92 #[.slice a n cap, .slice a' n' cap'] X fun e w' => e = .returned (.bool true) ∧ Below w.heap.size w w' ∧ w.heap.size + 2 ≤ w'.heap.size ∧ Keep2 w.heap.size X w' := by
  refine (eqFilterS_same X a a' n cap n' cap' bs (h.below hX) (h'.below hX) (by have := h.len; omega)).mono ?_
  rintro e w' ⟨rfl, h2⟩
  exact ⟨rfl, hX.trans (h2.mono hX.size), Nat.le_trans hz h2.size, keep2 h2 hz⟩
theorem ceqBox {w X : World} (hX : Below w.heap.size w X) (hz : w.heap.size + 2 ≤ X.heap.size) {a a' : Option Addr} {n cap n' cap' : Nat} {bs : List R8} (h : isR8s w a n cap bs) (h' : isR8s w a' n' cap' bs) (hn : bs.length ≤ 1048576) (hd : ∀ j (h : j < bs.length), bs[j].l.length ≤ 1048576) :
    Calls Tryz.prog 93 #[.slice a n cap, .slice a' n' cap'] X fun e w' => e = .returned (.bool true) ∧ Below w.heap.size w w' ∧ w.heap.size + 2 ≤ w'.heap.size ∧ Keep2 w.heap.size X w' := by
  refine (eqBoxS_same X a a' n cap n' cap' bs (h.below hX) (h'.below hX) (by have := h.len; omega) hd).mono ?_
  rintro e w' ⟨rfl, h2⟩
  exact ⟨rfl, hX.trans (h2.mono hX.size), Nat.le_trans hz h2.size, keep2 h2 hz⟩
theorem ceqFrame {w X : World} (hX : Below w.heap.size w X) (hz : w.heap.size + 2 ≤ X.heap.size) {a a' : Option Addr} {n cap n' cap' : Nat} {bs : List R5} (h : isR5s w a n cap bs) (h' : isR5s w a' n' cap' bs) (hn : bs.length ≤ 1048576) (hd : ∀ j (h : j < bs.length), bs[j].l.length ≤ 1048576) :
    Calls Tryz.prog 94 #[.slice a n cap, .slice a' n' cap'] X fun e w' => e = .returned (.bool true) ∧ Below w.heap.size w w' ∧ w.heap.size + 2 ≤ w'.heap.size ∧ Keep2 w.heap.size X w' := by
  refine (eqFrameS_same X a a' n cap n' cap' bs (h.below hX) (h'.below hX) (by have := h.len; omega) hd).mono ?_
  rintro e w' ⟨rfl, h2⟩
  exact ⟨rfl, hX.trans (h2.mono hX.size), Nat.le_trans hz h2.size, keep2 h2 hz⟩
theorem ceqEvent {w X : World} (hX : Below w.heap.size w X) (hz : w.heap.size + 2 ≤ X.heap.size) {a a' : Option Addr} {n cap n' cap' : Nat} {bs : List R8} (h : isR8s w a n cap bs) (h' : isR8s w a' n' cap' bs) (hn : bs.length ≤ 1048576) (hd : ∀ j (h : j < bs.length), bs[j].l.length ≤ 1048576) :
    Calls Tryz.prog 38 #[.slice a n cap, .slice a' n' cap'] X fun e w' => e = .returned (.bool true) ∧ Below w.heap.size w w' ∧ w.heap.size + 2 ≤ w'.heap.size ∧ Keep2 w.heap.size X w' := by
  refine (eqEventS_same X a a' n cap n' cap' bs (h.below hX) (h'.below hX) (by have := h.len; omega) hd).mono ?_
  rintro e w' ⟨rfl, h2⟩
  exact ⟨rfl, hX.trans (h2.mono hX.size), Nat.le_trans hz h2.size, keep2 h2 hz⟩
theorem ceqConfig {w X : World} (hX : Below w.heap.size w X) (hz : w.heap.size + 2 ≤ X.heap.size) (a b c d : Int) :
    Calls Tryz.prog 91 #[cfV a b c d, cfV a b c d] X fun e w' => e = .returned (.bool true) ∧ Below w.heap.size w w' ∧ w.heap.size + 2 ≤ w'.heap.size ∧ Keep2 w.heap.size X w' := by
  refine (eqConfig_same X a b c d).mono ?_
  rintro e w' ⟨rfl, h2⟩
  exact ⟨rfl, hX.trans (h2.mono hX.size), Nat.le_trans hz h2.size, keep2 h2 hz⟩
set_option maxHeartbeats 4000000 in
set_option maxRecDepth 20000 in
theorem eqHost_same (w : World) (H : Ho) (s s' : Sl) (h : isHo w H s) (h' : isHo w H s') (hn : H.le 1048576) :
    Calls Tryz.prog 37 #[hoV H s, hoV H s'] w fun o w' => o = .returned (.bool true) ∧ Below w.heap.size w w' := by
  have HH : Hid (isHo w H s) := h
  have HH' : Hid (isHo w H s') := h'
  have HN : Hid (H.le 1048576) := hn
  clear h h' hn
  obtain ⟨c0, c1, c2, c3, fs, bx, ff, qu, lo, st⟩ := H
  obtain ⟨a1, n1, k1, a2, n2, k2, a3, n3, k3, a4, n4, k4⟩ := s
  obtain ⟨b1, m1, l1, b2, m2, l2, b3, m3, l3, b4, m4, l4⟩ := s'
  have hlo : (lo != lo) = false := by simp
  have hst : (st != st) = false := by simp
  go_enter Tryz.func37, Tryz.ntmps37
  go_wp2_with (first | (go_at_call 91; refine (ceqConfig (w := w) (((Below.refl _ _).alloc (Nat.le_refl _) _).alloc (by simp) _) (by simp) _ _ _ _).mono ?_; rintro o w1 ⟨rfl, B1, Z1, K1⟩; obtain ⟨cp1, cr1⟩ := K1; have HB1 : Hid (Below w.heap.size w w1) := B1; have HZ1 : Hid (w.heap.size + 2 ≤ w1.heap.size) := Z1; clear B1 Z1) | (go_at_call 92; refine (ceqFilter HB1.out HZ1.out HH.out.fs HH'.out.fs HN.out.fs).mono ?_; rintro o w2 ⟨rfl, B2, Z2, K2⟩; obtain ⟨cp2, cr2⟩ := K2; have HB2 : Hid (Below w.heap.size w w2) := B2; have HZ2 : Hid (w.heap.size + 2 ≤ w2.heap.size) := Z2; clear B2 Z2) | (go_at_call 93; refine (ceqBox HB2.out HZ2.out HH.out.bx HH'.out.bx HN.out.bx HN.out.bd).mono ?_; rintro o w3 ⟨rfl, B3, Z3, K3⟩; obtain ⟨cp3, cr3⟩ := K3; have HB3 : Hid (Below w.heap.size w w3) := B3; have HZ3 : Hid (w.heap.size + 2 ≤ w3.heap.size) := Z3; clear B3 Z3) | (go_at_call 94; refine (ceqFrame HB3.out HZ3.out HH.out.ff HH'.out.ff HN.out.ff HN.out.fd).mono ?_; rintro o w4 ⟨rfl, B4, Z4, K4⟩; obtain ⟨cp4, cr4⟩ := K4; have HB4 : Hid (Below w.heap.size w w4) := B4; have HZ4 : Hid (w.heap.size + 2 ≤ w4.heap.size) := Z4; clear B4 Z4) | (go_at_call 38; refine (ceqEvent HB4.out HZ4.out HH.out.qu HH'.out.qu HN.out.qu HN.out.qd).mono ?_; rintro o w5 ⟨rfl, B5, Z5, K5⟩; obtain ⟨cp5, cr5⟩ := K5; have HB5 : Hid (Below w.heap.size w w5) := B5; have HZ5 : Hid (w.heap.size + 2 ≤ w5.heap.size) := Z5; clear B5 Z5))
  go_ret
  exact ⟨rfl, HB5.out⟩
end Go.Proofs.YtaamahohdnbpiaaGreat
namespace Go.Proofs.YtaamahohdnbpiaaGreat
open Go.RowKit
theorem cszBox {w X : World} (hX : Below w.heap.size w X) (hz : w.heap.size + 1 ≤ X.heap.size) {a : Option Addr} {n cap : Nat} {bs : List R8} (h : isR8s w a n cap bs) (m : Nat) (hm : m ≤ 1048576) (hn : bs.length ≤ 9223372036854775807) (hd : ∀ j (h : j < bs.length), bs[j].l.length ≤ 9223372036854775807) :
    Calls Tryz.prog 83 #[.slice a n cap, .int .i64 (m : Int)] X fun e w' => ∃ z : Int, e = .returned (.int .i64 z) ∧ Below w.heap.size w w' ∧ w.heap.size + 1 ≤ w'.heap.size ∧ (∀ o, w'.cell? ⟨w.heap.size, o, none⟩ = X.cell? ⟨w.heap.size, o, none⟩) ∧ (z = -1 ∨ ∃ m' : Nat, z = (m' : Int) ∧ m' ≤ m ∧ bs.length ≤ m ∧ ∀ j (h : j < bs.length), bs[j].l.length ≤ m) := by
  have hl := h.len
  refine (szBoxS_any X a n cap bs (h.below hX) m hm (by omega) hd).mono ?_
  rintro e w' ⟨z, rfl, h2, h3⟩
  refine ⟨z, rfl, hX.trans (h2.mono hX.size), Nat.le_trans hz h2.size, fun o => h2.cell (p := ⟨w.heap.size, o, none⟩) (by show w.heap.size < _; omega), ?_⟩
  rcases h3 with h3 | ⟨m', e1, e2, e3, e4⟩
  · exact .inl h3
  · exact .inr ⟨m', e1, e2, by omega, e4⟩
theorem cszFrame {w X : World} (hX : Below w.heap.size w X) (hz : w.heap.size + 1 ≤ X.heap.size) {a : Option Addr} {n cap : Nat} {bs : List R5} (h : isR5s w a n cap bs) (m : Nat) (hm : m ≤ 1048576) (hn : bs.length ≤ 9223372036854775807) (hd : ∀ j (h : j < bs.length), bs[j].l.length ≤ 9223372036854775807) :
    Calls Tryz.prog 84 #[.slice a n cap, .int .i64 (m : Int)] X fun e w' => ∃ z : Int, e = .returned (.int .i64 z) ∧ Below w.heap.size w w' ∧ w.heap.size + 1 ≤ w'.heap.size ∧ (∀ o, w'.cell? ⟨w.heap.size, o, none⟩ = X.cell? ⟨w.heap.size, o, none⟩) ∧ (z = -1 ∨ ∃ m' : Nat, z = (m' : Int) ∧ m' ≤ m ∧ bs.length ≤ m ∧ ∀ j (h : j < bs.length), bs[j].l.length ≤ m) := by
  have hl := h.len
  refine (szFrameS_any X a n cap bs (h.below hX) m hm (by omega) hd).mono ?_
  rintro e w' ⟨z, rfl, h2, h3⟩
  refine ⟨z, rfl, hX.trans (h2.mono hX.size), Nat.le_trans hz h2.size, fun o => h2.cell (p := ⟨w.heap.size, o, none⟩) (by show w.heap.size < _; omega), ?_⟩
  rcases h3 with h3 | ⟨m', e1, e2, e3, e4⟩
  · exact .inl h3
  · exact .inr ⟨m', e1, e2, by omega, e4⟩
theorem cszEvent {w X : World} (hX : Below w.heap.size w X) (hz : w.heap.size + 1 ≤ X.heap.size) {a : Option Addr} {n cap : Nat} {bs : List R8} (h : isR8s w a n cap bs) (m : Nat) (hm : m ≤ 1048576) (hn : bs.length ≤ 9223372036854775807) (hd : ∀ j (h : j < bs.length), bs[j].l.length ≤ 9223372036854775807) :
    Calls Tryz.prog 85 #[.slice a n cap, .int .i64 (m : Int)] X fun e w' => ∃ z : Int, e = .returned (.int .i64 z) ∧ Below w.heap.size w w' ∧ w.heap.size + 1 ≤ w'.heap.size ∧ (∀ o, w'.cell? ⟨w.heap.size, o, none⟩ = X.cell? ⟨w.heap.size, o, none⟩) ∧ (z = -1 ∨ ∃ m' : Nat, z = (m' : Int) ∧ m' ≤ m ∧ bs.length ≤ m ∧ ∀ j (h : j < bs.length), bs[j].l.length ≤ m) := by
  have hl := h.len
  refine (szEventS_any X a n cap bs (h.below hX) m hm (by omega) hd).mono ?_
  rintro e w' ⟨z, rfl, h2, h3⟩
  refine ⟨z, rfl, hX.trans (h2.mono hX.size), Nat.le_trans hz h2.size, fun o => h2.cell (p := ⟨w.heap.size, o, none⟩) (by show w.heap.size < _; omega), ?_⟩
  rcases h3 with h3 | ⟨m', e1, e2, e3, e4⟩
  · exact .inl h3
  · exact .inr ⟨m', e1, e2, by omega, e4⟩
set_option maxHeartbeats 4000000 in
set_option maxRecDepth 20000 in
theorem szHost_any (w : World) (H : Ho) (s : Sl) (h : isHo w H s) (hn : H.le 9223372036854775807) (m : Nat) (hm : m ≤ 1048576) :
    Calls Tryz.prog 35 #[hoV H s, .int .i64 (m : Int)] w fun o w' => ∃ z : Int, o = .returned (.int .i64 z) ∧ Below w.heap.size w w' ∧ (z = -1 ∨ ∃ m' : Nat, z = (m' : Int) ∧ H.le m) := by
  have HH : Hid (isHo w H s) := h
  have HN : Hid (H.le 9223372036854775807) := hn
  clear h hn
  obtain ⟨c0, c1, c2, c3, fs, bx, ff, qu, lo, st⟩ := H
  obtain ⟨a1, n1, k1, a2, n2, k2, a3, n3, k3, a4, n4, k4⟩ := s
  have hA : Below w.heap.size w (w.alloc (.cells #[.int .i64 c0, .int .i64 c1, .int .i64 c2, .int .i64 c3, .slice a1 n1 k1, .slice a2 n2 k2, .slice a3 n3 k3, .slice a4 n4 k4, .int .i64 lo, .int .i64 st] 61)) := (Below.refl _ _).alloc (Nat.le_refl _) _
  have HA : Hid (Below w.heap.size w (w.alloc (.cells #[.int .i64 c0, .int .i64 c1, .int .i64 c2, .int .i64 c3, .slice a1 n1 k1, .slice a2 n2 k2, .slice a3 n3 k3, .slice a4 n4 k4, .int .i64 lo, .int .i64 st] 61))) := hA
  clear hA
  by_cases h1 : (n1 : Int) ≤ (m : Int)
  · have H1 : Hid (∀ W, Calls Tryz.prog 82 #[.slice a1 n1 k1, .int .i64 (m : Int)] W fun o w' => o = .returned (.int .i64 ((m : Int) - (n1 : Int))) ∧ W = w') := by
      intro W
      have hl : n1 = fs.length := HH.out.fs.len
      have hb : fs.length ≤ 9223372036854775807 := HN.out.fs
      have := szFilterS_any W a1 n1 k1 m (by omega) hm
      rw [if_pos h1] at this
      exact this
    have e1 : ¬ (m : Int) - (n1 : Int) < 0 := by omega
    have ed : (m : Int) - (n1 : Int) = ((m - n1 : Nat) : Int) := by omega
    have hmm : m - n1 ≤ 1048576 := by omega
    have hmle : m - n1 ≤ m := by omega
    rw [ed] at H1 e1
    clear ed
    generalize hmx : m - n1 = mx at *
    clear hmx
    go_enter Tryz.func35, Tryz.ntmps35
    go_wp2_with (first | (go_at_call 82; refine (H1.out _).mono ?_; rintro o w1 ⟨rfl, rfl⟩))
    refine (cszBox HA.out (by simp) HH.out.bx mx hmm HN.out.bx HN.out.bd).mono ?_
    rintro o w2 ⟨z2, rfl, B2, Z2, cp2, h2⟩
    have HB2 : Hid (Below w.heap.size w w2) := B2
    have HZ2 : Hid (w.heap.size + 1 ≤ w2.heap.size) := Z2
    clear B2 Z2
    rcases h2 with rfl | ⟨m2, rfl, l2, q2, d2⟩
    · go_wp2_with fail
      go_ret
      exact ⟨_, rfl, HB2.out, .inl rfl⟩
    · have HD2 : Hid (bx.length ≤ mx ∧ ∀ j (h : j < bx.length), bx[j].l.length ≤ mx) := ⟨q2, d2⟩
      clear q2 d2
      go_wp2_with fail
      refine (cszFrame HB2.out HZ2.out HH.out.ff m2 (by omega) HN.out.ff HN.out.fd).mono ?_
      rintro o w3 ⟨z3, rfl, B3, Z3, cp3, h3⟩
      have HB3 : Hid (Below w.heap.size w w3) := B3
      have HZ3 : Hid (w.heap.size + 1 ≤ w3.heap.size) := Z3
      clear B3 Z3
      rcases h3 with rfl | ⟨m3, rfl, l3, q3, d3⟩
      · go_wp2_with fail
        go_ret
        exact ⟨_, rfl, HB3.out, .inl rfl⟩
      · have HD3 : Hid (ff.length ≤ m2 ∧ ∀ j (h : j < ff.length), ff[j].l.length ≤ m2) := ⟨q3, d3⟩
        clear q3 d3
        go_wp2_with fail
        refine (cszEvent HB3.out HZ3.out HH.out.qu m3 (by omega) HN.out.qu HN.out.qd).mono ?_
        rintro o w4 ⟨z4, rfl, B4, Z4, cp4, h4⟩
        have HB4 : Hid (Below w.heap.size w w4) := B4
        clear B4 Z4
        rcases h4 with rfl | ⟨m4, rfl, l4, q4, d4⟩
        · go_wp2_with fail
          go_ret
          exact ⟨_, rfl, HB4.out, .inl rfl⟩
        · have HD4 : Hid (qu.length ≤ m3 ∧ ∀ j (h : j < qu.length), qu[j].l.length ≤ m3) := ⟨q4, d4⟩
          clear q4 d4
          go_wp2_with fail
          go_ret
          refine ⟨_, rfl, HB4.out, .inr ⟨m4, rfl, ?_⟩⟩
          have hl : n1 = fs.length := HH.out.fs.len
          obtain ⟨x2, y2⟩ := HD2.out
          obtain ⟨x3, y3⟩ := HD3.out
          obtain ⟨x4, y4⟩ := HD4.out
          exact ⟨by show fs.length ≤ m; omega, Nat.le_trans x2 hmle, by show ff.length ≤ m; omega, by show qu.length ≤ m; omega, fun j hj => Nat.le_trans (y2 j hj) hmle, fun j hj => Nat.le_trans (y3 j hj) (by omega), fun j hj => Nat.le_trans (y4 j hj) (by omega)⟩
  · have H1 : Hid (∀ W, Calls Tryz.prog 82 #[.slice a1 n1 k1, .int .i64 (m : Int)] W fun o w' => o = .returned (.int .i64 (-1)) ∧ W = w') := by
      intro W
      have hl : n1 = fs.length := HH.out.fs.len
      have hb : fs.length ≤ 9223372036854775807 := HN.out.fs
      have := szFilterS_any W a1 n1 k1 m (by omega) hm
      rw [if_neg h1] at this
      exact this
    go_enter Tryz.func35, Tryz.ntmps35
    go_wp2_with (first | (go_at_call 82; refine (H1.out _).mono ?_; rintro o w1 ⟨rfl, rfl⟩))
    go_ret
    exact ⟨_, rfl, HA.out, .inl rfl⟩
end Go.Proofs.YtaamahohdnbpiaaGreat
namespace Go.Proofs.YtaamahohdnbpiaaGreat
open Go.RowKit
/-- a config in its ranges -/
def okCf (a b c d : Int) : Bool := decide (1 ≤ a ∧ a ≤ 8 ∧ 1 ≤ b ∧ b ≤ 16 ∧ 0 ≤ c ∧ c ≤ 1 ∧ 1 ≤ d ∧ d ≤ 32)
theorem inRange_any (w : World) (v l m : Int) : Calls Tryz.prog 115 #[.int .i64 v, .int .i64 l, .int .i64 m] w fun o w' => o = .returned (.bool (decide (l ≤ v ∧ v ≤ m))) ∧ w = w' := by
  have HD : Hid (∀ b : Bool, (b = true ↔ (l ≤ v ∧ v ≤ m)) → b = decide (l ≤ v ∧ v ≤ m)) := fun b h => by rw [Bool.eq_iff_iff, h]; simp
  generalize decide (l ≤ v ∧ v ≤ m) = R at *
  go_enter Tryz.func115, Tryz.ntmps115
  go_wp2
  all_goals
    go_ret
    refine ⟨ret_bool (HD.out _ ?_), rfl⟩
    simp
    try omega
set_option maxHeartbeats 1000000 in
theorem l3okConfig_any (w : World) (a b c d : Int) : Calls Tryz.prog 69 #[cfV a b c d] w fun o w' => o = .returned (.bool (okCf a b c d)) ∧ Below w.heap.size w w' := by
  go_enter Tryz.func69, Tryz.ntmps69
  go_wp2
  all_goals
    go_ret
    refine ⟨ret_bool ?_, (Below.refl _ _).alloc (Nat.le_refl _) _⟩
    unfold okCf
    rw [Bool.eq_iff_iff]
    simp
    try omega
set_option maxHeartbeats 1000000 in
theorem validConfig_any (w : World) (a b c d : Int) : Calls Tryz.prog 53 #[cfV a b c d] w fun o w' => o = .returned (.bool (okCf a b c d)) ∧ Below w.heap.size w w' := by
  go_enter Tryz.func53, Tryz.ntmps53
  go_wp2_with (first | (go_at_call 115; refine (inRange_any _ _ _ _).mono ?_; rintro o w1 ⟨rfl, rfl⟩))
  all_goals
    go_ret
    refine ⟨ret_bool ?_, (Below.refl _ _).alloc (Nat.le_refl _) _⟩
    unfold okCf
    rw [Bool.eq_iff_iff]
    simp
    try omega
/-- a filter in its ranges -/
def okFl (x : R3) : Bool := decide (x.m < (if x.e = true then 536870912 else 2048)) && decide (x.k < (if x.e = true then 536870912 else 2048))
set_option maxHeartbeats 1000000 in
theorem wrongFilter_any (w : World) (x : R3) : Calls Tryz.prog 117 #[flV x.e x.m x.k] w fun o w' => o = .returned (.bool (!okFl x)) ∧ Below w.heap.size w w' := by
  obtain ⟨e, m, k⟩ := x
  cases e
  · have HD : Hid (∀ b : Bool, (b = true ↔ ¬ (m < 2048 ∧ k < 2048)) → b = !okFl ⟨false, m, k⟩) := fun b h => by rw [Bool.eq_iff_iff, h]; simp [okFl]; omega
    generalize okFl ⟨false, m, k⟩ = R at *
    go_enter Tryz.func117, Tryz.ntmps117
    go_wp2
    all_goals
      go_ret
      refine ⟨ret_bool (HD.out _ ?_), (Below.refl _ _).alloc (Nat.le_refl _) _⟩
      simp
      try omega
  · have HD : Hid (∀ b : Bool, (b = true ↔ ¬ (m < 536870912 ∧ k < 536870912)) → b = !okFl ⟨true, m, k⟩) := fun b h => by rw [Bool.eq_iff_iff, h]; simp [okFl]; omega
    generalize okFl ⟨true, m, k⟩ = R at *
    go_enter Tryz.func117, Tryz.ntmps117
    go_wp2
    all_goals
      go_ret
      refine ⟨ret_bool (HD.out _ ?_), (Below.refl _ _).alloc (Nat.le_refl _) _⟩
      simp
      try omega
end Go.Proofs.YtaamahohdnbpiaaGreat
namespace Go.Proofs.YtaamahohdnbpiaaGreat
open Go.RowKit
/-- where the look at the filters stands behind k of them -/
theorem all_snoc {bs : List R3} {k : Nat} (hk : k < bs.length) (h : ∀ j (hj : j < bs.length), j < k → okFl bs[j] = true) (h1 : okFl bs[k] = true) : ∀ j (hj : j < bs.length), j < k + 1 → okFl bs[j] = true := by
  intro j hj h2
  by_cases e : j = k
  · subst e; exact h1
  · exact h j hj (by omega)
theorem all_yes {bs : List R3} {k : Nat} (hk : bs.length ≤ k) (h : ∀ j (hj : j < bs.length), j < k → okFl bs[j] = true) : bs.all okFl = true := by
  rw [List.all_eq_true]
  intro x hx
  obtain ⟨j, hj, rfl⟩ := List.getElem_of_mem hx
  exact h j hj (by omega)
theorem all_no {bs : List R3} {k : Nat} (hk : k < bs.length) (h1 : okFl bs[k] = false) : bs.all okFl = false := by
  rw [List.all_eq_false]
  exact ⟨bs[k], List.getElem_mem hk, by rw [h1]; simp⟩
set_option maxHeartbeats 2000000 in
theorem indexFunc_any (w : World) (a : Option Addr) (n cap : Nat) (bs : List R3) (h : isR3s w a n cap bs) (hn : n ≤ 1048576) :
    Calls Tryz.prog 159 #[.slice a n cap, .func (.func 117) #[] #[]] w fun o w' => ∃ z : Int, o = .returned (.int .i64 z) ∧ decide (0 ≤ z) = !bs.all okFl ∧ Below w.heap.size w w' := by
  have hlen := h.len
  have hcp := h.cap
  by_cases hl : bs = []
  · subst hl
    have hn0 : n = 0 := hlen
    subst hn0
    clear hlen h
    go_enter Tryz.func159, Tryz.ntmps159
    go_wp2
    go_loopw [8] (fun i wr => i = .int .i64 0 ∧ wr = w) (fun _ _ => 0)
    case atStart => exact ⟨rfl, rfl⟩
    case round =>
      obtain ⟨rfl, rfl⟩ := hrel
      go_wp2
      go_ret
      exact ⟨-1, rfl, rfl, Below.refl _ _⟩
  · obtain ⟨g, off, rfl, hc⟩ := h.cells hl
    have HL : Hid (n = bs.length) := hlen
    have HC : Hid (∀ j (h : j < bs.length), at3 w g (off + j * 3) bs[j]) := hc
    have hgz : g < w.heap.size := World.block_lt_of_cell? w _ (hc 0 (List.length_pos_iff.2 hl)).c0
    clear h hlen hc
    go_enter Tryz.func159, Tryz.ntmps159
    go_wp2
    go_loopw [8] (fun i wr => ∃ k : Nat, k ≤ n ∧ i = .int .i64 (k : Int) ∧ (∀ j (hj : j < bs.length), j < k → okFl bs[j] = true) ∧ Below w.heap.size w wr) (fun i _ => n - (intOf i).toNat)
    case atStart => exact ⟨0, Nat.zero_le _, rfl, fun j hj h => absurd h (Nat.not_lt_zero _), Below.refl _ _⟩
    case round =>
      obtain ⟨k, hk, rfl, hdone, hb⟩ := hrel
      by_cases hlt : k < n
      · have hkl : k < bs.length := by have := HL.out; omega
        have hx := HC.out k hkl
        have x0 := (hb.cell (by exact hgz)).trans hx.c0
        have x1 := (hb.cell (by exact hgz)).trans hx.c1
        have x2 := (hb.cell (by exact hgz)).trans hx.c2
        have HB : Hid (Below w.heap.size w wr) := hb
        have HD : Hid (∀ j (hj : j < bs.length), j < k → okFl bs[j] = true) := hdone
        have HW : Hid (∀ W, Calls Tryz.prog 117 #[flV bs[k].e bs[k].m bs[k].k] W fun o w' => o = .returned (.bool (!okFl bs[k])) ∧ Below W.heap.size W w') := fun W => wrongFilter_any W bs[k]
        clear hx hb hdone
        cases hok : okFl bs[k]
        · have HN : Hid (bs.all okFl = false) := all_no hkl hok
          rw [hok] at HW
          clear hok
          generalize bs[k].e = e0 at *
          generalize bs[k].m = m0 at *
          generalize bs[k].k = k0 at *
          go_wp2_with (first | (go_at_call 117; refine (HW.out _).mono ?_; rintro o w5 ⟨rfl, hb5⟩))
          go_ret
          exact ⟨_, rfl, by rw [HN.out]; simp, HB.out.trans (hb5.mono HB.out.size)⟩
        · have HN : Hid (∀ j (hj : j < bs.length), j < k + 1 → okFl bs[j] = true) := all_snoc hkl HD.out hok
          rw [hok] at HW
          clear hok
          generalize bs[k].e = e0 at *
          generalize bs[k].m = m0 at *
          generalize bs[k].k = k0 at *
          go_wp2_with (first | (go_at_call 117; refine (HW.out _).mono ?_; rintro o w5 ⟨rfl, hb5⟩))
          go_roundw
          case rel => exact ⟨k + 1, by omega, by go_num, HN.out, HB.out.trans (hb5.mono HB.out.size)⟩
          case measure => simp [intOf]; omega
      · have HN : Hid (bs.all okFl = true) := all_yes (by have := HL.out; omega) hdone
        clear hdone
        go_wp2
        go_ret
        exact ⟨_, rfl, by rw [HN.out]; simp, hb⟩
theorem containsFunc_any (w : World) (a : Option Addr) (n cap : Nat) (bs : List R3) (h : isR3s w a n cap bs) (hn : n ≤ 1048576) :
    Calls Tryz.prog 116 #[.slice a n cap, .func (.func 117) #[] #[]] w fun o w' => o = .returned (.bool (!bs.all okFl)) ∧ Below w.heap.size w w' := by
  have HI : Hid (Calls Tryz.prog 159 #[.slice a n cap, .func (.func 117) #[] #[]] w fun o w' => ∃ z : Int, o = .returned (.int .i64 z) ∧ decide (0 ≤ z) = !bs.all okFl ∧ Below w.heap.size w w') := indexFunc_any w a n cap bs h hn
  clear h
  go_enter Tryz.func116, Tryz.ntmps116
  go_wp2_with (first | (go_at_call 159; refine HI.out.mono ?_; rintro o w5 ⟨z, rfl, hz, hb5⟩; have HZ : Hid (decide (0 ≤ z) = !bs.all okFl) := hz; clear hz))
  go_ret
  exact ⟨ret_bool HZ.out, hb5⟩
def okFs (bs : List R3) : Bool := decide (bs.length ≤ 16) && bs.all okFl
theorem validFilters_any (w : World) (a : Option Addr) (n cap : Nat) (bs : List R3) (h : isR3s w a n cap bs) (hn : n ≤ 1048576) :
    Calls Tryz.prog 54 #[.slice a n cap] w fun o w' => o = .returned (.bool (okFs bs)) ∧ Below w.heap.size w w' := by
  have hl := h.len
  have HI : Hid (Calls Tryz.prog 116 #[.slice a n cap, .func (.func 117) #[] #[]] w fun o w' => o = .returned (.bool (!bs.all okFl)) ∧ Below w.heap.size w w') := containsFunc_any w a n cap bs h hn
  clear h
  by_cases h16 : n ≤ 16
  · have HD : Hid (okFs bs = bs.all okFl) := by unfold Hid okFs; rw [show decide (bs.length ≤ 16) = true from decide_eq_true (by omega)]; simp
    have hd : decide ((n : Int) ≤ 16) = true := by simp; omega
    clear hl
    have hmf : ∀ (fn : Fn) (first cap : Array Value) (w : World), (Instr.makeFunc fn first cap).run Tryz.prog w = .ok (.func fn first cap) w := fun _ _ _ _ => rfl
    go_enter Tryz.func54, Tryz.ntmps54
    go_wp2_with (first | (go_at_call 116; refine HI.out.mono ?_; rintro o w5 ⟨rfl, hb5⟩))
    go_ret
    exact ⟨ret_bool (by rw [HD.out]; try simp), hb5⟩
  · have HD : Hid (okFs bs = false) := by unfold Hid okFs; rw [show decide (bs.length ≤ 16) = false from decide_eq_false (by omega)]; rfl
    have hd : decide ((n : Int) ≤ 16) = false := by simp; omega
    clear hl
    go_enter Tryz.func54, Tryz.ntmps54
    go_wp2
    go_ret
    exact ⟨ret_bool HD.out.symm, Below.refl _ _⟩
end Go.Proofs.YtaamahohdnbpiaaGreat
