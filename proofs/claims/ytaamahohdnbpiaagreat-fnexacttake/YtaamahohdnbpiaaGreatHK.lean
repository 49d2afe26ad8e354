import Derived.Test.YtaamahohdnbpiaaGreatHE
namespace Go.Proofs.YtaamahohdnbpiaaGreat
open Go.RowKit
set_option maxHeartbeats 2000000 in
set_option maxRecDepth 20000 in
theorem szFrameS_any (w : World) (a : Option Addr) (n cap : Nat) (bs : List R5) (h : isR5s w a n cap bs) (m : Nat) (hm : m ≤ 1048576) (hn : n ≤ 9223372036854775807) (hd : ∀ j (h : j < bs.length), bs[j].l.length ≤ 9223372036854775807) :
    Calls Tryz.prog 84 #[.slice a n cap, .int .i64 (m : Int)] w fun o w' => ∃ z : Int, o = .returned (.int .i64 z) ∧ Below w.heap.size w w' ∧ (z = -1 ∨ ∃ m' : Nat, z = (m' : Int) ∧ m' ≤ m ∧ n ≤ m ∧ ∀ j (h : j < bs.length), bs[j].l.length ≤ m) := by
  have hlen := h.len
  have hcp := h.cap
  by_cases hnm : n ≤ m
  · by_cases hl : bs = []
    · subst hl
      have hn0 : n = 0 := hlen
      subst hn0
      clear hlen h hd
      go_enter Tryz.func84, Tryz.ntmps84
      go_wp2
      go_loopw [1, 5] (fun lf i wr => i = .int .i64 0 ∧ lf = .int .i64 (m : Int) ∧ wr = w) (fun _ _ _ => 0)
      case atStart => exact ⟨rfl, rfl, rfl⟩
      case round =>
        obtain ⟨rfl, rfl, rfl⟩ := hrel
        go_wp2
        go_ret
        exact ⟨_, rfl, Below.refl _ _, .inr ⟨m, rfl, Nat.le_refl _, by omega, fun j hj => by cases hj⟩⟩
    · obtain ⟨g, off, rfl, hc⟩ := h.cells hl
      have HL : Hid (n = bs.length) := hlen
      have HC : Hid (∀ j (h : j < bs.length), ∃ ao m c, at5 w g (off + j * 5) bs[j] ao m c) := hc
      have HD : Hid (∀ j (h : j < bs.length), bs[j].l.length ≤ 9223372036854775807) := hd
      have hnz : ¬ (m : Int) - (n : Int) < 0 := by omega
      clear h hlen hc hd
      go_enter Tryz.func84, Tryz.ntmps84
      go_wp2
      go_loopw [1, 5] (fun lf i wr => ∃ k m' : Nat, k ≤ n ∧ i = .int .i64 (k : Int) ∧ lf = .int .i64 (m' : Int) ∧ m' ≤ m ∧ Below w.heap.size w wr ∧ ∀ j (hj : j < k) (h : j < bs.length), bs[j].l.length ≤ m) (fun _ i _ => n - (intOf i).toNat)
      case atStart => exact ⟨0, m - n, Nat.zero_le _, rfl, by go_num, by omega, Below.refl _ _, fun j hj => absurd hj (Nat.not_lt_zero _)⟩
      case round =>
        obtain ⟨k, m', hk, rfl, rfl, hm', hb, hdone⟩ := hrel
        by_cases hlt : k < n
        · have hkl : k < bs.length := by have := HL.out; omega
          obtain ⟨ao, m0, c0, hx⟩ := HC.out k hkl
          have hgz := World.block_lt_of_cell? w _ hx.c0
          have cx0 := (hb.cell (by exact hgz)).trans hx.c0
          have cx1 := (hb.cell (by exact hgz)).trans hx.c1
          have cx2 := (hb.cell (by exact hgz)).trans hx.c2
          have cx3 := (hb.cell (by exact hgz)).trans hx.c3
          have cxs := (hb.cell (by exact hgz)).trans hx.cs
          have hm0 : m0 ≤ 9223372036854775807 := by have := HD.out k hkl; have := hx.dat.len; omega
          have HM : Hid (m0 = bs[k].l.length) := hx.dat.len
          have HB : Hid (Below w.heap.size w wr) := hb
          have HDN : Hid (∀ j (hj : j < k) (h : j < bs.length), bs[j].l.length ≤ m) := hdone
          clear hx hb hdone
          generalize hBe : bs[k].e = ge at *
          generalize hBi : bs[k].i = gi at *
          generalize hBr : bs[k].r = gr at *
          generalize hBd : bs[k].d = gd at *
          clear hBe hBi hBr hBd
          by_cases hle : (m0 : Int) ≤ (m' : Int)
          · have HE : Hid (∀ W, Calls Tryz.prog 45 #[frV ge gi gr gd ao m0 c0, .int .i64 (m' : Int)] W fun o w' => o = .returned (.int .i64 ((m' : Int) - (m0 : Int))) ∧ W.alloc (frC ge gi gr gd ao m0 c0 71) = w') := by
              intro W; have := szFrame_any W ge gi gr gd ao m0 c0 m' hm0 (by omega); rw [if_pos hle] at this; exact this
            have hnz2 : ¬ (m' : Int) - (m0 : Int) < 0 := by omega
            go_wp2_with (first | (go_at_call 45; refine (HE.out _).mono ?_; rintro o w5 ⟨rfl, rfl⟩))
            go_roundw
            case rel =>
              refine ⟨k + 1, m' - m0, by omega, by go_num, by go_num, by omega, HB.out.trans (((Below.refl _ _).alloc (Nat.le_refl _) _).mono HB.out.size), fun j hj hjl => ?_⟩
              by_cases e : j = k
              · subst e; have := HM.out; omega
              · exact HDN.out j (by omega) hjl
            case measure => simp [intOf]; omega
          · have HE : Hid (∀ W, Calls Tryz.prog 45 #[frV ge gi gr gd ao m0 c0, .int .i64 (m' : Int)] W fun o w' => o = .returned (.int .i64 (-1)) ∧ W.alloc (frC ge gi gr gd ao m0 c0 71) = w') := by
              intro W; have := szFrame_any W ge gi gr gd ao m0 c0 m' hm0 (by omega); rw [if_neg hle] at this; exact this
            go_wp2_with (first | (go_at_call 45; refine (HE.out _).mono ?_; rintro o w5 ⟨rfl, rfl⟩))
            go_ret
            exact ⟨-1, rfl, HB.out.trans (((Below.refl _ _).alloc (Nat.le_refl _) _).mono HB.out.size), .inl rfl⟩
        · go_wp2
          go_ret
          exact ⟨_, rfl, hb, .inr ⟨m', rfl, hm', hnm, fun j hj => hdone j (by have := HL.out; omega) hj⟩⟩
  · have hneg : (m : Int) - (n : Int) < 0 := by omega
    have hd2 : decide ((m : Int) - (n : Int) < 0) = true := by simpa using hneg
    clear h hd hlen
    go_enter Tryz.func84, Tryz.ntmps84
    go_wp2
    go_ret
    exact ⟨-1, rfl, Below.refl _ _, .inl rfl⟩
set_option maxHeartbeats 2000000 in
set_option maxRecDepth 20000 in
theorem szBoxS_any (w : World) (a : Option Addr) (n cap : Nat) (bs : List R8) (h : isR8s w a n cap bs) (m : Nat) (hm : m ≤ 1048576) (hn : n ≤ 9223372036854775807) (hd : ∀ j (h : j < bs.length), bs[j].l.length ≤ 9223372036854775807) :
    Calls Tryz.prog 83 #[.slice a n cap, .int .i64 (m : Int)] w fun o w' => ∃ z : Int, o = .returned (.int .i64 z) ∧ Below w.heap.size w w' ∧ (z = -1 ∨ ∃ m' : Nat, z = (m' : Int) ∧ m' ≤ m ∧ n ≤ m ∧ ∀ j (h : j < bs.length), bs[j].l.length ≤ m) := by
  have hlen := h.len
  have hcp := h.cap
  by_cases hnm : n ≤ m
  · by_cases hl : bs = []
    · subst hl
      have hn0 : n = 0 := hlen
      subst hn0
      clear hlen h hd
      go_enter Tryz.func83, Tryz.ntmps83
      go_wp2
      go_loopw [1, 5] (fun lf i wr => i = .int .i64 0 ∧ lf = .int .i64 (m : Int) ∧ wr = w) (fun _ _ _ => 0)
      case atStart => exact ⟨rfl, rfl, rfl⟩
      case round =>
        obtain ⟨rfl, rfl, rfl⟩ := hrel
        go_wp2
        go_ret
        exact ⟨_, rfl, Below.refl _ _, .inr ⟨m, rfl, Nat.le_refl _, by omega, fun j hj => by cases hj⟩⟩
    · obtain ⟨g, off, rfl, hc⟩ := h.cells hl
      have HL : Hid (n = bs.length) := hlen
      have HC : Hid (∀ j (h : j < bs.length), ∃ ao m c, at8 w g (off + j * 8) bs[j] ao m c) := hc
      have HD : Hid (∀ j (h : j < bs.length), bs[j].l.length ≤ 9223372036854775807) := hd
      have hnz : ¬ (m : Int) - (n : Int) < 0 := by omega
      clear h hlen hc hd
      go_enter Tryz.func83, Tryz.ntmps83
      go_wp2
      go_loopw [1, 5] (fun lf i wr => ∃ k m' : Nat, k ≤ n ∧ i = .int .i64 (k : Int) ∧ lf = .int .i64 (m' : Int) ∧ m' ≤ m ∧ Below w.heap.size w wr ∧ ∀ j (hj : j < k) (h : j < bs.length), bs[j].l.length ≤ m) (fun _ i _ => n - (intOf i).toNat)
      case atStart => exact ⟨0, m - n, Nat.zero_le _, rfl, by go_num, by omega, Below.refl _ _, fun j hj => absurd hj (Nat.not_lt_zero _)⟩
      case round =>
        obtain ⟨k, m', hk, rfl, rfl, hm', hb, hdone⟩ := hrel
        by_cases hlt : k < n
        · have hkl : k < bs.length := by have := HL.out; omega
          obtain ⟨ao, m0, c0, hx⟩ := HC.out k hkl
          have hgz := World.block_lt_of_cell? w _ hx.c0
          have cx0 := (hb.cell (by exact hgz)).trans hx.c0
          have cx1 := (hb.cell (by exact hgz)).trans hx.c1
          have cx2 := (hb.cell (by exact hgz)).trans hx.c2
          have cx3 := (hb.cell (by exact hgz)).trans hx.c3
          have cx4 := (hb.cell (by exact hgz)).trans hx.c4
          have cx5 := (hb.cell (by exact hgz)).trans hx.c5
          have cx6 := (hb.cell (by exact hgz)).trans hx.c6
          have cxs := (hb.cell (by exact hgz)).trans hx.cs
          have hm0 : m0 ≤ 9223372036854775807 := by have := HD.out k hkl; have := hx.dat.len; omega
          have HM : Hid (m0 = bs[k].l.length) := hx.dat.len
          have HB : Hid (Below w.heap.size w wr) := hb
          have HDN : Hid (∀ j (hj : j < k) (h : j < bs.length), bs[j].l.length ≤ m) := hdone
          clear hx hb hdone
          generalize hBx : bs[k].x = gx at *
          generalize hBy : bs[k].y = gy at *
          generalize hBz : bs[k].z = gz at *
          generalize hBe : bs[k].e = ge at *
          generalize hBi : bs[k].i = gi at *
          generalize hBr : bs[k].r = gr at *
          generalize hBd : bs[k].d = gd at *
          clear hBx hBy hBz hBe hBi hBr hBd
          by_cases hle : (m0 : Int) ≤ (m' : Int)
          · have HE : Hid (∀ W, Calls Tryz.prog 144 #[bxV gx gy gz ge gi gr gd ao m0 c0, .int .i64 (m' : Int)] W fun o w' => o = .returned (.int .i64 ((m' : Int) - (m0 : Int))) ∧ Below W.heap.size W w') := by
              intro W; have := szBox_any W gx gy gz ge gi gr gd ao m0 c0 m' hm0 (by omega); rw [if_pos hle] at this; exact this
            have hnz2 : ¬ (m' : Int) - (m0 : Int) < 0 := by omega
            go_wp2_with (first | (go_at_call 144; refine (HE.out _).mono ?_; rintro o w5 ⟨rfl, hb5⟩))
            go_roundw
            case rel =>
              refine ⟨k + 1, m' - m0, by omega, by go_num, by go_num, by omega, HB.out.trans (hb5.mono HB.out.size), fun j hj hjl => ?_⟩
              by_cases e : j = k
              · subst e; have := HM.out; omega
              · exact HDN.out j (by omega) hjl
            case measure => simp [intOf]; omega
          · have HE : Hid (∀ W, Calls Tryz.prog 144 #[bxV gx gy gz ge gi gr gd ao m0 c0, .int .i64 (m' : Int)] W fun o w' => o = .returned (.int .i64 (-1)) ∧ Below W.heap.size W w') := by
              intro W; have := szBox_any W gx gy gz ge gi gr gd ao m0 c0 m' hm0 (by omega); rw [if_neg hle] at this; exact this
            go_wp2_with (first | (go_at_call 144; refine (HE.out _).mono ?_; rintro o w5 ⟨rfl, hb5⟩))
            go_ret
            exact ⟨-1, rfl, HB.out.trans (hb5.mono HB.out.size), .inl rfl⟩
        · go_wp2
          go_ret
          exact ⟨_, rfl, hb, .inr ⟨m', rfl, hm', hnm, fun j hj => hdone j (by have := HL.out; omega) hj⟩⟩
  · have hneg : (m : Int) - (n : Int) < 0 := by omega
    have hd2 : decide ((m : Int) - (n : Int) < 0) = true := by simpa using hneg
    clear h hd hlen
    go_enter Tryz.func83, Tryz.ntmps83
    go_wp2
    go_ret
    exact ⟨-1, rfl, Below.refl _ _, .inl rfl⟩
set_option maxHeartbeats 2000000 in
set_option maxRecDepth 20000 in
theorem szEventS_any (w : World) (a : Option Addr) (n cap : Nat) (bs : List R8) (h : isR8s w a n cap bs) (m : Nat) (hm : m ≤ 1048576) (hn : n ≤ 9223372036854775807) (hd : ∀ j (h : j < bs.length), bs[j].l.length ≤ 9223372036854775807) :
    Calls Tryz.prog 85 #[.slice a n cap, .int .i64 (m : Int)] w fun o w' => ∃ z : Int, o = .returned (.int .i64 z) ∧ Below w.heap.size w w' ∧ (z = -1 ∨ ∃ m' : Nat, z = (m' : Int) ∧ m' ≤ m ∧ n ≤ m ∧ ∀ j (h : j < bs.length), bs[j].l.length ≤ m) := by
  have hlen := h.len
  have hcp := h.cap
  by_cases hnm : n ≤ m
  · by_cases hl : bs = []
    · subst hl
      have hn0 : n = 0 := hlen
      subst hn0
      clear hlen h hd
      go_enter Tryz.func85, Tryz.ntmps85
      go_wp2
      go_loopw [1, 5] (fun lf i wr => i = .int .i64 0 ∧ lf = .int .i64 (m : Int) ∧ wr = w) (fun _ _ _ => 0)
      case atStart => exact ⟨rfl, rfl, rfl⟩
      case round =>
        obtain ⟨rfl, rfl, rfl⟩ := hrel
        go_wp2
        go_ret
        exact ⟨_, rfl, Below.refl _ _, .inr ⟨m, rfl, Nat.le_refl _, by omega, fun j hj => by cases hj⟩⟩
    · obtain ⟨g, off, rfl, hc⟩ := h.cells hl
      have HL : Hid (n = bs.length) := hlen
      have HC : Hid (∀ j (h : j < bs.length), ∃ ao m c, at8 w g (off + j * 8) bs[j] ao m c) := hc
      have HD : Hid (∀ j (h : j < bs.length), bs[j].l.length ≤ 9223372036854775807) := hd
      have hnz : ¬ (m : Int) - (n : Int) < 0 := by omega
      clear h hlen hc hd
      go_enter Tryz.func85, Tryz.ntmps85
      go_wp2
      go_loopw [1, 5] (fun lf i wr => ∃ k m' : Nat, k ≤ n ∧ i = .int .i64 (k : Int) ∧ lf = .int .i64 (m' : Int) ∧ m' ≤ m ∧ Below w.heap.size w wr ∧ ∀ j (hj : j < k) (h : j < bs.length), bs[j].l.length ≤ m) (fun _ i _ => n - (intOf i).toNat)
      case atStart => exact ⟨0, m - n, Nat.zero_le _, rfl, by go_num, by omega, Below.refl _ _, fun j hj => absurd hj (Nat.not_lt_zero _)⟩
      case round =>
        obtain ⟨k, m', hk, rfl, rfl, hm', hb, hdone⟩ := hrel
        by_cases hlt : k < n
        · have hkl : k < bs.length := by have := HL.out; omega
          obtain ⟨ao, m0, c0, hx⟩ := HC.out k hkl
          have hgz := World.block_lt_of_cell? w _ hx.c0
          have cx0 := (hb.cell (by exact hgz)).trans hx.c0
          have cx1 := (hb.cell (by exact hgz)).trans hx.c1
          have cx2 := (hb.cell (by exact hgz)).trans hx.c2
          have cx3 := (hb.cell (by exact hgz)).trans hx.c3
          have cx4 := (hb.cell (by exact hgz)).trans hx.c4
          have cx5 := (hb.cell (by exact hgz)).trans hx.c5
          have cx6 := (hb.cell (by exact hgz)).trans hx.c6
          have cxs := (hb.cell (by exact hgz)).trans hx.cs
          have hm0 : m0 ≤ 9223372036854775807 := by have := HD.out k hkl; have := hx.dat.len; omega
          have HM : Hid (m0 = bs[k].l.length) := hx.dat.len
          have HB : Hid (Below w.heap.size w wr) := hb
          have HDN : Hid (∀ j (hj : j < k) (h : j < bs.length), bs[j].l.length ≤ m) := hdone
          clear hx hb hdone
          generalize hBx : bs[k].x = gx at *
          generalize hBy : bs[k].y = gy at *
          generalize hBz : bs[k].z = gz at *
          generalize hBe : bs[k].e = ge at *
          generalize hBi : bs[k].i = gi at *
          generalize hBr : bs[k].r = gr at *
          generalize hBd : bs[k].d = gd at *
          clear hBx hBy hBz hBe hBi hBr hBd
          by_cases hle : (m0 : Int) ≤ (m' : Int)
          · have HE : Hid (∀ W, Calls Tryz.prog 145 #[bxV gx gy gz ge gi gr gd ao m0 c0, .int .i64 (m' : Int)] W fun o w' => o = .returned (.int .i64 ((m' : Int) - (m0 : Int))) ∧ Below W.heap.size W w') := by
              intro W; have := szEvent_any W gx gy gz ge gi gr gd ao m0 c0 m' hm0 (by omega); rw [if_pos hle] at this; exact this
            have hnz2 : ¬ (m' : Int) - (m0 : Int) < 0 := by omega
            go_wp2_with (first | (go_at_call 145; refine (HE.out _).mono ?_; rintro o w5 ⟨rfl, hb5⟩))
            go_roundw
            case rel =>
              refine ⟨k + 1, m' - m0, by omega, by go_num, by go_num, by omega, HB.out.trans (hb5.mono HB.out.size), fun j hj hjl => ?_⟩
              by_cases e : j = k
              · subst e; have := HM.out; omega
              · exact HDN.out j (by omega) hjl
            case measure => simp [intOf]; omega
          · have HE : Hid (∀ W, Calls Tryz.prog 145 #[bxV gx gy gz ge gi gr gd ao m0 c0, .int .i64 (m' : Int)] W fun o w' => o = .returned (.int .i64 (-1)) ∧ Below W.heap.size W w') := by
              intro W; have := szEvent_any W gx gy gz ge gi gr gd ao m0 c0 m' hm0 (by omega); rw [if_neg hle] at this; exact this
            go_wp2_with (first | (go_at_call 145; refine (HE.out _).mono ?_; rintro o w5 ⟨rfl, hb5⟩))
            go_ret
            exact ⟨-1, rfl, HB.out.trans (hb5.mono HB.out.size), .inl rfl⟩
        · go_wp2
          go_ret
          exact ⟨_, rfl, hb, .inr ⟨m', rfl, hm', hnm, fun j hj => hdone j (by have := HL.out; omega) hj⟩⟩
  · have hneg : (m : Int) - (n : Int) < 0 := by omega
    have hd2 : decide ((m : Int) - (n : Int) < 0) = true := by simpa using hneg
    clear h hd hlen
    go_enter Tryz.func85, Tryz.ntmps85
    go_wp2
    go_ret
    exact ⟨-1, rfl, Below.refl _ _, .inl rfl⟩
theorem szFilterS_any (w : World) (a : Option Addr) (n cap : Nat) (m : Nat) (hn : n ≤ 9223372036854775807) (hm : m ≤ 1048576) :
    Calls Tryz.prog 82 #[.slice a n cap, .int .i64 m] w fun o w' => o = .returned (.int .i64 (if (n : Int) ≤ (m : Int) then (m : Int) - (n : Int) else -1)) ∧ w = w' := by
  by_cases h : (n : Int) ≤ (m : Int)
  · rw [if_pos h]
    go_enter Tryz.func82, Tryz.ntmps82
    go_wp2
    go_ret
    exact ⟨rfl, rfl⟩
  · rw [if_neg h]
    go_enter Tryz.func82, Tryz.ntmps82
    go_wp2
    go_ret
    exact ⟨rfl, rfl⟩
end Go.Proofs.YtaamahohdnbpiaaGreat
