import Derived.Test.YtaamahohdnbpiaaGreatHL
import Derived.Test.YtaamahohdnbpiaaGreatGH
import Derived.Test.YtaamahohdnbpiaaGreatHK
namespace Go.Proofs.YtaamahohdnbpiaaGreat
open Go.RowKit
structure Keep2 (b : Nat) (X w' : World) : Prop where
  cp : ∀ o, w'.cell? ⟨b, o, none⟩ = X.cell? ⟨b, o, none⟩
  cr : ∀ o, w'.cell? ⟨b + 1, o, none⟩ = X.cell? ⟨b + 1, o, none⟩
theorem keep2 {b : Nat} {X w' : World} (hb : Below X.heap.size X w') (hz : b + 2 ≤ X.heap.size) : Keep2 b X w' :=
  ⟨fun o => hb.cell (p := ⟨b, o, none⟩) (by show b < _; omega), fun o => hb.cell (p := ⟨b + 1, o, none⟩) (by show b + 1 < _; omega)⟩
theorem ceqFilter {w X : World} (hX : Below w.heap.size w X) (hz : w.heap.size + 2 ≤ X.heap.size) {a a' : Option Addr} {n cap n' cap' : Nat} {bs : List R3} (h : isR3s w a n cap bs) (h' : isR3s w a' n' cap' bs) (hn : bs.length ≤ 1048576) :
    Calls Tryz.prog 92 #[.slice a n cap, .slice a' n' cap'] X fun e w' => e = .returned (.bool true) ∧ Below w.heap.size w w' ∧ w.heap.size + 2 ≤ w'.heap.size ∧ Keep2 w.heap.size X w' := by
  refine (eqFilterS_same X a a' n cap n' cap' bs (h.below hX) (h'.below hX) (by have := h.len; omega)).mono ?_
  rintro e w' ⟨rfl, h2⟩
  exact ⟨rfl, hX.trans (h2.mono hX.size), Nat.le_trans hz h2.size, keep2 h2 hz⟩
theorem ceqBox {w X : World} (hX : Below w.heap.size w X) (hz : w.heap.size + 2 ≤ X.heap.size) {a a' : Option Addr} {n cap n' cap' : Nat} {bs : List R8} (h : isR8s w a n cap bs) (h' : isR8s w a' n' cap' bs) (hn : bs.length ≤ 1048576) (hd : ∀ j (h : j < bs.length), bs[j].l.length ≤ 1048576) :
    Calls Tryz.prog 93 #[.slice a n cap, .slice a' n' cap'] X fun e w' => e = .returned (.bool true) ∧ Below w.heap.size w w' ∧ w.heap.size + 2 ≤ w'.heap.size ∧ Keep2 w.heap.size X w' := by
  refine (eqBoxS_same X a a' n cap n' cap' bs (h.below hX) (h'.below hX) (by have := h.len; omega) hd).mono ?_
  rintro e w' ⟨rfl, h2⟩
  exact ⟨rfl, hX.trans (h2.mono hX.size), Nat.le_trans hz h2.size, keep2 h2 hz⟩
theorem ceqFrame {w X : World} (hX : Below w.heap.size w X) (hz : w.heap.size + 2 ≤ X.heap.size) {a a' : Option Addr} {n cap n' cap' : Nat} {bs : List R5} (h : isR5s w a n cap bs) (h' : isR5s w a' n' cap' bs) (hn : bs.length ≤ 1048576) (hd : ∀ j (h : j < bs.length), bs[j].l.length ≤ 1048576) :
    Calls Tryz.prog 94 #[.slice a n cap, .slice a' n' cap'] X fun e w' => e = .returned (.bool true) ∧ Below w.heap.size w w' ∧ w.heap.size + 2 ≤ w'.heap.size ∧ Keep2 w.heap.size X w' := by
  refine (eqFrameS_same X a a' n cap n' cap' bs (h.below hX) (h'.below hX) (by have := h.len; omega) hd).mono ?_
  rintro e w' ⟨rfl, h2⟩
  exact ⟨rfl, hX.trans (h2.mono hX.size), Nat.le_trans hz h2.size, keep2 h2 hz⟩
theorem ceqEvent {w X : World} (hX : Below w.heap.size w X) (hz : w.heap.size + 2 ≤ X.heap.size) {a a' : Option Addr} {n cap n' cap' : Nat} {bs : List R8} (h : isR8s w a n cap bs) (h' : isR8s w a' n' cap' bs) (hn : bs.length ≤ 1048576) (hd : ∀ j (h : j < bs.length), bs[j].l.length ≤ 1048576) :
    Calls Tryz.prog 38 #[.slice a n cap, .slice a' n' cap'] X fun e w' => e = .returned (.bool true) ∧ Below w.heap.size w w' ∧ w.heap.size + 2 ≤ w'.heap.size ∧ Keep2 w.heap.size X w' := by
  refine (eqEventS_same X a a' n cap n' cap' bs (h.below hX) (h'.below hX) (by have := h.len; omega) hd).mono ?_
  rintro e w' ⟨rfl, h2⟩
  exact ⟨rfl, hX.trans (h2.mono hX.size), Nat.le_trans hz h2.size, keep2 h2 hz⟩
theorem ceqConfig {w X : World} (hX : Below w.heap.size w X) (hz : w.heap.size + 2 ≤ X.heap.size) (a b c d : Int) :
    Calls Tryz.prog 91 #[cfV a b c d, cfV a b c d] X fun e w' => e = .returned (.bool true) ∧ Below w.heap.size w w' ∧ w.heap.size + 2 ≤ w'.heap.size ∧ Keep2 w.heap.size X w' := by
  refine (eqConfig_same X a b c d).mono ?_
  rintro e w' ⟨rfl, h2⟩
  exact ⟨rfl, hX.trans (h2.mono hX.size), Nat.le_trans hz h2.size, keep2 h2 hz⟩
set_option maxHeartbeats 4000000 in
set_option maxRecDepth 20000 in
theorem eqHost_same (w : World) (H : Ho) (s s' : Sl) (h : isHo w H s) (h' : isHo w H s') (hn : H.le 1048576) :
    Calls Tryz.prog 37 #[hoV H s, hoV H s'] w fun o w' => o = .returned (.bool true) ∧ Below w.heap.size w w' := by
  have HH : Hid (isHo w H s) := h
  have HH' : Hid (isHo w H s') := h'
  have HN : Hid (H.le 1048576) := hn
  clear h h' hn
  obtain ⟨c0, c1, c2, c3, fs, bx, ff, qu, lo, st⟩ := H
  obtain ⟨a1, n1, k1, a2, n2, k2, a3, n3, k3, a4, n4, k4⟩ := s
  obtain ⟨b1, m1, l1, b2, m2, l2, b3, m3, l3, b4, m4, l4⟩ := s'
  have hlo : (lo != lo) = false := by simp
  have hst : (st != st) = false := by simp
  go_enter Tryz.func37, Tryz.ntmps37
  go_wp2_with (first | (go_at_call 91; refine (ceqConfig (w := w) (((Below.refl _ _).alloc (Nat.le_refl _) _).alloc (by simp) _) (by simp) _ _ _ _).mono ?_; rintro o w1 ⟨rfl, B1, Z1, K1⟩; obtain ⟨cp1, cr1⟩ := K1; have HB1 : Hid (Below w.heap.size w w1) := B1; have HZ1 : Hid (w.heap.size + 2 ≤ w1.heap.size) := Z1; clear B1 Z1) | (go_at_call 92; refine (ceqFilter HB1.out HZ1.out HH.out.fs HH'.out.fs HN.out.fs).mono ?_; rintro o w2 ⟨rfl, B2, Z2, K2⟩; obtain ⟨cp2, cr2⟩ := K2; have HB2 : Hid (Below w.heap.size w w2) := B2; have HZ2 : Hid (w.heap.size + 2 ≤ w2.heap.size) := Z2; clear B2 Z2) | (go_at_call 93; refine (ceqBox HB2.out HZ2.out HH.out.bx HH'.out.bx HN.out.bx HN.out.bd).mono ?_; rintro o w3 ⟨rfl, B3, Z3, K3⟩; obtain ⟨cp3, cr3⟩ := K3; have HB3 : Hid (Below w.heap.size w w3) := B3; have HZ3 : Hid (w.heap.size + 2 ≤ w3.heap.size) := Z3; clear B3 Z3) | (go_at_call 94; refine (ceqFrame HB3.out HZ3.out HH.out.ff HH'.out.ff HN.out.ff HN.out.fd).mono ?_; rintro o w4 ⟨rfl, B4, Z4, K4⟩; obtain ⟨cp4, cr4⟩ := K4; have HB4 : Hid (Below w.heap.size w w4) := B4; have HZ4 : Hid (w.heap.size + 2 ≤ w4.heap.size) := Z4; clear B4 Z4) | (go_at_call 38; refine (ceqEvent HB4.out HZ4.out HH.out.qu HH'.out.qu HN.out.qu HN.out.qd).mono ?_; rintro o w5 ⟨rfl, B5, Z5, K5⟩; obtain ⟨cp5, cr5⟩ := K5; have HB5 : Hid (Below w.heap.size w w5) := B5; have HZ5 : Hid (w.heap.size + 2 ≤ w5.heap.size) := Z5; clear B5 Z5))
  go_ret
  exact ⟨rfl, HB5.out⟩
end Go.Proofs.YtaamahohdnbpiaaGreat
