import Derived.Test.YtaamahohdnbpiaaGreatHM
namespace Go.Proofs.YtaamahohdnbpiaaGreat
open Go.RowKit
theorem cszBox {w X : World} (hX : Below w.heap.size w X) (hz : w.heap.size + 1 ≤ X.heap.size) {a : Option Addr} {n cap : Nat} {bs : List R8} (h : isR8s w a n cap bs) (m : Nat) (hm : m ≤ 1048576) (hn : bs.length ≤ 9223372036854775807) (hd : ∀ j (h : j < bs.length), bs[j].l.length ≤ 9223372036854775807) :
    Calls Tryz.prog 83 #[.slice a n cap, .int .i64 (m : Int)] X fun e w' => ∃ z : Int, e = .returned (.int .i64 z) ∧ Below w.heap.size w w' ∧ w.heap.size + 1 ≤ w'.heap.size ∧ (∀ o, w'.cell? ⟨w.heap.size, o, none⟩ = X.cell? ⟨w.heap.size, o, none⟩) ∧ (z = -1 ∨ ∃ m' : Nat, z = (m' : Int) ∧ m' ≤ m ∧ bs.length ≤ m ∧ ∀ j (h : j < bs.length), bs[j].l.length ≤ m) := by
  have hl := h.len
  refine (szBoxS_any X a n cap bs (h.below hX) m hm (by omega) hd).mono ?_
  rintro e w' ⟨z, rfl, h2, h3⟩
  refine ⟨z, rfl, hX.trans (h2.mono hX.size), Nat.le_trans hz h2.size, fun o => h2.cell (p := ⟨w.heap.size, o, none⟩) (by show w.heap.size < _; omega), ?_⟩
  rcases h3 with h3 | ⟨m', e1, e2, e3, e4⟩
  · exact .inl h3
  · exact .inr ⟨m', e1, e2, by omega, e4⟩
theorem cszFrame {w X : World} (hX : Below w.heap.size w X) (hz : w.heap.size + 1 ≤ X.heap.size) {a : Option Addr} {n cap : Nat} {bs : List R5} (h : isR5s w a n cap bs) (m : Nat) (hm : m ≤ 1048576) (hn : bs.length ≤ 9223372036854775807) (hd : ∀ j (h : j < bs.length), bs[j].l.length ≤ 9223372036854775807) :
    Calls Tryz.prog 84 #[.slice a n cap, .int .i64 (m : Int)] X fun e w' => ∃ z : Int, e = .returned (.int .i64 z) ∧ Below w.heap.size w w' ∧ w.heap.size + 1 ≤ w'.heap.size ∧ (∀ o, w'.cell? ⟨w.heap.size, o, none⟩ = X.cell? ⟨w.heap.size, o, none⟩) ∧ (z = -1 ∨ ∃ m' : Nat, z = (m' : Int) ∧ m' ≤ m ∧ bs.length ≤ m ∧ ∀ j (h : j < bs.length), bs[j].l.length ≤ m) := by
  have hl := h.len
  refine (szFrameS_any X a n cap bs (h.below hX) m hm (by omega) hd).mono ?_
  rintro e w' ⟨z, rfl, h2, h3⟩
  refine ⟨z, rfl, hX.trans (h2.mono hX.size), Nat.le_trans hz h2.size, fun o => h2.cell (p := ⟨w.heap.size, o, none⟩) (by show w.heap.size < _; omega), ?_⟩
  rcases h3 with h3 | ⟨m', e1, e2, e3, e4⟩
  · exact .inl h3
  · exact .inr ⟨m', e1, e2, by omega, e4⟩
theorem cszEvent {w X : World} (hX : Below w.heap.size w X) (hz : w.heap.size + 1 ≤ X.heap.size) {a : Option Addr} {n cap : Nat} {bs : List R8} (h : isR8s w a n cap bs) (m : Nat) (hm : m ≤ 1048576) (hn : bs.length ≤ 9223372036854775807) (hd : ∀ j (h : j < bs.length), bs[j].l.length ≤ 9223372036854775807) :
    Calls Tryz.prog 85 #[.slice a n cap, .int .i64 (m : Int)] X fun e w' => ∃ z : Int, e = .returned (.int .i64 z) ∧ Below w.heap.size w w' ∧ w.heap.size + 1 ≤ w'.heap.size ∧ (∀ o, w'.cell? ⟨w.heap.size, o, none⟩ = X.cell? ⟨w.heap.size, o, none⟩) ∧ (z = -1 ∨ ∃ m' : Nat, z = (m' : Int) ∧ m' ≤ m ∧ bs.length ≤ m ∧ ∀ j (h : j < bs.length), bs[j].l.length ≤ m) := by
  have hl := h.len
  refine (szEventS_any X a n cap bs (h.below hX) m hm (by omega) hd).mono ?_
  rintro e w' ⟨z, rfl, h2, h3⟩
  refine ⟨z, rfl, hX.trans (h2.mono hX.size), Nat.le_trans hz h2.size, fun o => h2.cell (p := ⟨w.heap.size, o, none⟩) (by show w.heap.size < _; omega), ?_⟩
  rcases h3 with h3 | ⟨m', e1, e2, e3, e4⟩
  · exact .inl h3
  · exact .inr ⟨m', e1, e2, by omega, e4⟩
set_option maxHeartbeats 4000000 in
set_option maxRecDepth 20000 in
theorem szHost_any (w : World) (H : Ho) (s : Sl) (h : isHo w H s) (hn : H.le 9223372036854775807) (m : Nat) (hm : m ≤ 1048576) :
    Calls Tryz.prog 35 #[hoV H s, .int .i64 (m : Int)] w fun o w' => ∃ z : Int, o = .returned (.int .i64 z) ∧ Below w.heap.size w w' ∧ (z = -1 ∨ ∃ m' : Nat, z = (m' : Int) ∧ H.le m) := by
  have HH : Hid (isHo w H s) := h
  have HN : Hid (H.le 9223372036854775807) := hn
  clear h hn
  obtain ⟨c0, c1, c2, c3, fs, bx, ff, qu, lo, st⟩ := H
  obtain ⟨a1, n1, k1, a2, n2, k2, a3, n3, k3, a4, n4, k4⟩ := s
  have hA : Below w.heap.size w (w.alloc (.cells #[.int .i64 c0, .int .i64 c1, .int .i64 c2, .int .i64 c3, .slice a1 n1 k1, .slice a2 n2 k2, .slice a3 n3 k3, .slice a4 n4 k4, .int .i64 lo, .int .i64 st] 61)) := (Below.refl _ _).alloc (Nat.le_refl _) _
  have HA : Hid (Below w.heap.size w (w.alloc (.cells #[.int .i64 c0, .int .i64 c1, .int .i64 c2, .int .i64 c3, .slice a1 n1 k1, .slice a2 n2 k2, .slice a3 n3 k3, .slice a4 n4 k4, .int .i64 lo, .int .i64 st] 61))) := hA
  clear hA
  by_cases h1 : (n1 : Int) ≤ (m : Int)
  · have H1 : Hid (∀ W, Calls Tryz.prog 82 #[.slice a1 n1 k1, .int .i64 (m : Int)] W fun o w' => o = .returned (.int .i64 ((m : Int) - (n1 : Int))) ∧ W = w') := by
      intro W
      have hl : n1 = fs.length := HH.out.fs.len
      have hb : fs.length ≤ 9223372036854775807 := HN.out.fs
      have := szFilterS_any W a1 n1 k1 m (by omega) hm
      rw [if_pos h1] at this
      exact this
    have e1 : ¬ (m : Int) - (n1 : Int) < 0 := by omega
    have ed : (m : Int) - (n1 : Int) = ((m - n1 : Nat) : Int) := by omega
    have hmm : m - n1 ≤ 1048576 := by omega
    have hmle : m - n1 ≤ m := by omega
    rw [ed] at H1 e1
    clear ed
    generalize hmx : m - n1 = mx at *
    clear hmx
    go_enter Tryz.func35, Tryz.ntmps35
    go_wp2_with (first | (go_at_call 82; refine (H1.out _).mono ?_; rintro o w1 ⟨rfl, rfl⟩))
    refine (cszBox HA.out (by simp) HH.out.bx mx hmm HN.out.bx HN.out.bd).mono ?_
    rintro o w2 ⟨z2, rfl, B2, Z2, cp2, h2⟩
    have HB2 : Hid (Below w.heap.size w w2) := B2
    have HZ2 : Hid (w.heap.size + 1 ≤ w2.heap.size) := Z2
    clear B2 Z2
    rcases h2 with rfl | ⟨m2, rfl, l2, q2, d2⟩
    · go_wp2_with fail
      go_ret
      exact ⟨_, rfl, HB2.out, .inl rfl⟩
    · have HD2 : Hid (bx.length ≤ mx ∧ ∀ j (h : j < bx.length), bx[j].l.length ≤ mx) := ⟨q2, d2⟩
      clear q2 d2
      go_wp2_with fail
      refine (cszFrame HB2.out HZ2.out HH.out.ff m2 (by omega) HN.out.ff HN.out.fd).mono ?_
      rintro o w3 ⟨z3, rfl, B3, Z3, cp3, h3⟩
      have HB3 : Hid (Below w.heap.size w w3) := B3
      have HZ3 : Hid (w.heap.size + 1 ≤ w3.heap.size) := Z3
      clear B3 Z3
      rcases h3 with rfl | ⟨m3, rfl, l3, q3, d3⟩
      · go_wp2_with fail
        go_ret
        exact ⟨_, rfl, HB3.out, .inl rfl⟩
      · have HD3 : Hid (ff.length ≤ m2 ∧ ∀ j (h : j < ff.length), ff[j].l.length ≤ m2) := ⟨q3, d3⟩
        clear q3 d3
        go_wp2_with fail
        refine (cszEvent HB3.out HZ3.out HH.out.qu m3 (by omega) HN.out.qu HN.out.qd).mono ?_
        rintro o w4 ⟨z4, rfl, B4, Z4, cp4, h4⟩
        have HB4 : Hid (Below w.heap.size w w4) := B4
        clear B4 Z4
        rcases h4 with rfl | ⟨m4, rfl, l4, q4, d4⟩
        · go_wp2_with fail
          go_ret
          exact ⟨_, rfl, HB4.out, .inl rfl⟩
        · have HD4 : Hid (qu.length ≤ m3 ∧ ∀ j (h : j < qu.length), qu[j].l.length ≤ m3) := ⟨q4, d4⟩
          clear q4 d4
          go_wp2_with fail
          go_ret
          refine ⟨_, rfl, HB4.out, .inr ⟨m4, rfl, ?_⟩⟩
          have hl : n1 = fs.length := HH.out.fs.len
          obtain ⟨x2, y2⟩ := HD2.out
          obtain ⟨x3, y3⟩ := HD3.out
          obtain ⟨x4, y4⟩ := HD4.out
          exact ⟨by show fs.length ≤ m; omega, Nat.le_trans x2 hmle, by show ff.length ≤ m; omega, by show qu.length ≤ m; omega, fun j hj => Nat.le_trans (y2 j hj) hmle, fun j hj => Nat.le_trans (y3 j hj) (by omega), fun j hj => Nat.le_trans (y4 j hj) (by omega)⟩
  · have H1 : Hid (∀ W, Calls Tryz.prog 82 #[.slice a1 n1 k1, .int .i64 (m : Int)] W fun o w' => o = .returned (.int .i64 (-1)) ∧ W = w') := by
      intro W
      have hl : n1 = fs.length := HH.out.fs.len
      have hb : fs.length ≤ 9223372036854775807 := HN.out.fs
      have := szFilterS_any W a1 n1 k1 m (by omega) hm
      rw [if_neg h1] at this
      exact this
    go_enter Tryz.func35, Tryz.ntmps35
    go_wp2_with (first | (go_at_call 82; refine (H1.out _).mono ?_; rintro o w1 ⟨rfl, rfl⟩))
    go_ret
    exact ⟨_, rfl, HA.out, .inl rfl⟩
end Go.Proofs.YtaamahohdnbpiaaGreat
