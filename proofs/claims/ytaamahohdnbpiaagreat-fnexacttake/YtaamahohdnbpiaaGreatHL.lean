import Derived.Test.YtaamahohdnbpiaaGreatHF
namespace Go.Proofs.YtaamahohdnbpiaaGreat
open Go.RowKit
/-- a host's value -/
structure Ho where
  c0 : Int
  c1 : Int
  c2 : Int
  c3 : Int
  fs : List R3
  bx : List R8
  ff : List R5
  qu : List R8
  lo : Int
  st : Int
/-- the four slices of a host -/
structure Sl where
  a1 : Option Addr
  n1 : Nat
  k1 : Nat
  a2 : Option Addr
  n2 : Nat
  k2 : Nat
  a3 : Option Addr
  n3 : Nat
  k3 : Nat
  a4 : Option Addr
  n4 : Nat
  k4 : Nat
structure isHo (w : World) (H : Ho) (s : Sl) : Prop where
  fs : isR3s w s.a1 s.n1 s.k1 H.fs
  bx : isR8s w s.a2 s.n2 s.k2 H.bx
  ff : isR5s w s.a3 s.n3 s.k3 H.ff
  qu : isR8s w s.a4 s.n4 s.k4 H.qu
theorem isHo.below {w w' : World} {H : Ho} {s : Sl} (h : isHo w H s) (hb : Below w.heap.size w w') : isHo w' H s := ⟨h.fs.below hb, h.bx.below hb, h.ff.below hb, h.qu.below hb⟩
/-- no list of the host is longer than m -/
structure Ho.le (H : Ho) (m : Nat) : Prop where
  fs : H.fs.length ≤ m
  bx : H.bx.length ≤ m
  ff : H.ff.length ≤ m
  qu : H.qu.length ≤ m
  bd : ∀ j (h : j < H.bx.length), H.bx[j].l.length ≤ m
  fd : ∀ j (h : j < H.ff.length), H.ff[j].l.length ≤ m
  qd : ∀ j (h : j < H.qu.length), H.qu[j].l.length ≤ m
abbrev hoV (H : Ho) (s : Sl) : Value := .agg #[.int .i64 H.c0, .int .i64 H.c1, .int .i64 H.c2, .int .i64 H.c3, .slice s.a1 s.n1 s.k1, .slice s.a2 s.n2 s.k2, .slice s.a3 s.n3 s.k3, .slice s.a4 s.n4 s.k4, .int .i64 H.lo, .int .i64 H.st]
/-- the three blocks of a call's own, behind another call -/
structure Keep3 (b : Nat) (X w' : World) : Prop where
  cp : ∀ o, w'.cell? ⟨b, o, none⟩ = X.cell? ⟨b, o, none⟩
  cr : ∀ o, w'.cell? ⟨b + 1, o, none⟩ = X.cell? ⟨b + 1, o, none⟩
  co : ∀ o, w'.cell? ⟨b + 1 + 1, o, none⟩ = X.cell? ⟨b + 1 + 1, o, none⟩
  fr : ∀ o, w'.frozen? ⟨b + 1, o, none⟩ = X.frozen? ⟨b + 1, o, none⟩
  fo : ∀ o, w'.frozen? ⟨b + 1 + 1, o, none⟩ = X.frozen? ⟨b + 1 + 1, o, none⟩
theorem keep3 {b : Nat} {X w' : World} (hb : Below X.heap.size X w') (hz : b + 3 ≤ X.heap.size) : Keep3 b X w' :=
  ⟨fun o => hb.cell (p := ⟨b, o, none⟩) (by show b < _; omega), fun o => hb.cell (p := ⟨b + 1, o, none⟩) (by show b + 1 < _; omega), fun o => hb.cell (p := ⟨b + 1 + 1, o, none⟩) (by show b + 1 + 1 < _; omega), fun o => hb.frozen (p := ⟨b + 1, o, none⟩) (by show b + 1 < _; omega), fun o => hb.frozen (p := ⟨b + 1 + 1, o, none⟩) (by show b + 1 + 1 < _; omega)⟩
theorem callFilter {w X : World} (hX : Below w.heap.size w X) (hz : w.heap.size + 3 ≤ X.heap.size) {a : Option Addr} {n cap : Nat} {bs : List R3} (h : isR3s w a n cap bs) (hn : bs.length ≤ 1048576) :
    Calls Tryz.prog 87 #[.slice a n cap] X fun e w' => ∃ g, e = .returned (.slice (some ⟨g, 0, none⟩) n n) ∧ St (w.heap.size + 3) w' (fun W => isR3s W (some ⟨g, 0, none⟩) n n bs ∧ rowF W g (n * 3)) ∧ (w.heap.size ≤ g ∧ g < w'.heap.size) ∧ Below X.heap.size X w' ∧ Below w.heap.size w w' ∧ w.heap.size + 3 ≤ w'.heap.size ∧ Keep3 w.heap.size X w' := by
  refine (toFilterS_any X a n cap bs (h.below hX) (by have := h.len; omega)).mono ?_
  rintro e w' ⟨g, rfl, h1, h3, h2⟩
  exact ⟨g, rfl, h1.mono hz, ⟨Nat.le_trans hX.size h3.1, h3.2⟩, h2, hX.trans (h2.mono hX.size), Nat.le_trans hz h2.size, keep3 h2 hz⟩
theorem callBox {w X : World} (hX : Below w.heap.size w X) (hz : w.heap.size + 3 ≤ X.heap.size) {a : Option Addr} {n cap : Nat} {bs : List R8} (h : isR8s w a n cap bs) (hn : bs.length ≤ 1048576) (hd : ∀ j (h : j < bs.length), bs[j].l.length ≤ 1048576) :
    Calls Tryz.prog 88 #[.slice a n cap] X fun e w' => ∃ g, e = .returned (.slice (some ⟨g, 0, none⟩) n n) ∧ St (w.heap.size + 3) w' (fun W => isR8s W (some ⟨g, 0, none⟩) n n bs ∧ wr8 w.heap.size w'.heap.size W g n) ∧ Below X.heap.size X w' ∧ Below w.heap.size w w' ∧ w.heap.size + 3 ≤ w'.heap.size ∧ Keep3 w.heap.size X w' := by
  refine (toBoxS_any X a n cap bs (h.below hX) (by have := h.len; omega) hd).mono ?_
  rintro e w' ⟨g, rfl, h1, h2⟩
  have h1 := h1.mono hz
  exact ⟨g, rfl, fun W hW => ⟨(h1 W hW).1, (h1 W hW).2.mono hX.size (Nat.le_refl _)⟩, h2, hX.trans (h2.mono hX.size), Nat.le_trans hz h2.size, keep3 h2 hz⟩
theorem callFrame {w X : World} (hX : Below w.heap.size w X) (hz : w.heap.size + 3 ≤ X.heap.size) {a : Option Addr} {n cap : Nat} {bs : List R5} (h : isR5s w a n cap bs) (hn : bs.length ≤ 1048576) (hd : ∀ j (h : j < bs.length), bs[j].l.length ≤ 1048576) :
    Calls Tryz.prog 89 #[.slice a n cap] X fun e w' => ∃ g, e = .returned (.slice (some ⟨g, 0, none⟩) n n) ∧ St (w.heap.size + 3) w' (fun W => isR5s W (some ⟨g, 0, none⟩) n n bs ∧ wr5 w.heap.size w'.heap.size W g n) ∧ Below X.heap.size X w' ∧ Below w.heap.size w w' ∧ w.heap.size + 3 ≤ w'.heap.size ∧ Keep3 w.heap.size X w' := by
  refine (toFrameS_any X a n cap bs (h.below hX) (by have := h.len; omega) hd).mono ?_
  rintro e w' ⟨g, rfl, h1, h2⟩
  have h1 := h1.mono hz
  exact ⟨g, rfl, fun W hW => ⟨(h1 W hW).1, (h1 W hW).2.mono hX.size (Nat.le_refl _)⟩, h2, hX.trans (h2.mono hX.size), Nat.le_trans hz h2.size, keep3 h2 hz⟩
theorem callEvent {w X : World} (hX : Below w.heap.size w X) (hz : w.heap.size + 3 ≤ X.heap.size) {a : Option Addr} {n cap : Nat} {bs : List R8} (h : isR8s w a n cap bs) (hn : bs.length ≤ 1048576) (hd : ∀ j (h : j < bs.length), bs[j].l.length ≤ 1048576) :
    Calls Tryz.prog 90 #[.slice a n cap] X fun e w' => ∃ g, e = .returned (.slice (some ⟨g, 0, none⟩) n n) ∧ St (w.heap.size + 3) w' (fun W => isR8s W (some ⟨g, 0, none⟩) n n bs ∧ wr8 w.heap.size w'.heap.size W g n) ∧ Below X.heap.size X w' ∧ Below w.heap.size w w' ∧ w.heap.size + 3 ≤ w'.heap.size ∧ Keep3 w.heap.size X w' := by
  refine (toEventS_any X a n cap bs (h.below hX) (by have := h.len; omega) hd).mono ?_
  rintro e w' ⟨g, rfl, h1, h2⟩
  have h1 := h1.mono hz
  exact ⟨g, rfl, fun W hW => ⟨(h1 W hW).1, (h1 W hW).2.mono hX.size (Nat.le_refl _)⟩, h2, hX.trans (h2.mono hX.size), Nat.le_trans hz h2.size, keep3 h2 hz⟩
/-- what of a host may be written -/
structure wrHo (B T : Nat) (W : World) (s : Sl) : Prop where
  e : ∃ g1 g2 g3 g4, s = ⟨some ⟨g1, 0, none⟩, s.n1, s.n1, some ⟨g2, 0, none⟩, s.n2, s.n2, some ⟨g3, 0, none⟩, s.n3, s.n3, some ⟨g4, 0, none⟩, s.n4, s.n4⟩ ∧ rowF W g1 (s.n1 * 3) ∧ (B ≤ g1 ∧ g1 < T) ∧ wr8 B T W g2 s.n2 ∧ wr5 B T W g3 s.n3 ∧ wr8 B T W g4 s.n4
set_option maxHeartbeats 4000000 in
set_option maxRecDepth 20000 in
theorem toHost_wr (w : World) (H : Ho) (s : Sl) (h : isHo w H s) (hn : H.le 1048576) :
    Calls Tryz.prog 36 #[hoV H s] w fun o w' => ∃ s', o = .returned (hoV H s') ∧ St w.heap.size w' (fun W => isHo W H s' ∧ wrHo w.heap.size w'.heap.size W s') ∧ Below w.heap.size w w' := by
  have HH : Hid (isHo w H s) := h
  have HN : Hid (H.le 1048576) := hn
  clear h hn
  obtain ⟨c0, c1, c2, c3, fs, bx, ff, qu, lo, st⟩ := H
  obtain ⟨a1, n1, k1, a2, n2, k2, a3, n3, k3, a4, n4, k4⟩ := s
  go_enter Tryz.func36, Tryz.ntmps36
  go_wp2_with (first | (go_at_call 86; refine (toConfig_any _ _ _ _ _).mono ?_; rintro o w1 ⟨rfl, hb1⟩; obtain ⟨cp1, cr1, co1, fr1, fo1⟩ := keep3 (b := w.heap.size) hb1 (by simp); have HB1 : Hid (Below w.heap.size w w1) := ((((Below.refl w.heap.size w).alloc (Nat.le_refl _) _).alloc (by simp) _).alloc (by simp; omega) _).trans (hb1.mono (by simp; omega)); have HZ1 : Hid (w.heap.size + 3 ≤ w1.heap.size) := (by have := hb1.size; simp at this; exact this); clear hb1) | (go_at_call 87; refine (callFilter (by (repeat refine Below.setCell ?_ (by simp; try omega) _); exact HB1.out) (by simpa using HZ1.out) HH.out.fs HN.out.fs).mono ?_; rintro o w2 ⟨g2, rfl, S2, G2, X2, B2, Z2, K2⟩; have HG2 : Hid (w.heap.size ≤ g2 ∧ g2 < w2.heap.size) := G2; clear G2; obtain ⟨cp2, cr2, co2, fr2, fo2⟩ := K2; have HS2 : Hid _ := S2; have HX2 : Hid _ := X2; have HB2 : Hid (Below w.heap.size w w2) := B2; have HZ2 : Hid (w.heap.size + 3 ≤ w2.heap.size) := Z2; clear S2 X2 B2 Z2) | (go_at_call 88; refine (callBox (by (repeat refine Below.setCell ?_ (by simp; try omega) _); exact HB2.out) (by simpa using HZ2.out) HH.out.bx HN.out.bx HN.out.bd).mono ?_; rintro o w3 ⟨g3, rfl, S3, X3, B3, Z3, K3⟩; obtain ⟨cp3, cr3, co3, fr3, fo3⟩ := K3; have HS3 : Hid _ := S3; have HX3 : Hid _ := X3; have HB3 : Hid (Below w.heap.size w w3) := B3; have HZ3 : Hid (w.heap.size + 3 ≤ w3.heap.size) := Z3; clear S3 X3 B3 Z3) | (go_at_call 89; refine (callFrame (by (repeat refine Below.setCell ?_ (by simp; try omega) _); exact HB3.out) (by simpa using HZ3.out) HH.out.ff HN.out.ff HN.out.fd).mono ?_; rintro o w4 ⟨g4, rfl, S4, X4, B4, Z4, K4⟩; obtain ⟨cp4, cr4, co4, fr4, fo4⟩ := K4; have HS4 : Hid _ := S4; have HX4 : Hid _ := X4; have HB4 : Hid (Below w.heap.size w w4) := B4; have HZ4 : Hid (w.heap.size + 3 ≤ w4.heap.size) := Z4; clear S4 X4 B4 Z4) | (go_at_call 90; refine (callEvent (by (repeat refine Below.setCell ?_ (by simp; try omega) _); exact HB4.out) (by simpa using HZ4.out) HH.out.qu HN.out.qu HN.out.qd).mono ?_; rintro o w5 ⟨g5, rfl, S5, X5, B5, Z5, K5⟩; obtain ⟨cp5, cr5, co5, fr5, fo5⟩ := K5; have HS5 : Hid _ := S5; have HX5 : Hid _ := X5; have HB5 : Hid (Below w.heap.size w w5) := B5; have HZ5 : Hid (w.heap.size + 3 ≤ w5.heap.size) := Z5; clear S5 X5 B5 Z5))
  refine bodyPost_ret (v := hoV ⟨c0, c1, c2, c3, fs, bx, ff, qu, lo, st⟩ ⟨some ⟨g2, 0, none⟩, n1, n1, some ⟨g3, 0, none⟩, n2, n2, some ⟨g4, 0, none⟩, n3, n3, some ⟨g5, 0, none⟩, n4, n4⟩) (by simp [results, Tryz.results36, go_sem, cr5, cr4, cr3, cr2, cr1]) rfl ?_
  have T2 : St (w.heap.size + 3) w2 (fun W => isR3s W (some ⟨g2, 0, none⟩) n1 n1 fs ∧ rowF W g2 (n1 * 3)) := HS2.out
  have T3 : St (w.heap.size + 3) w3 (fun W => isR8s W (some ⟨g3, 0, none⟩) n2 n2 bx ∧ wr8 w.heap.size w3.heap.size W g3 n2) := HS3.out
  have T4 : St (w.heap.size + 3) w4 (fun W => isR5s W (some ⟨g4, 0, none⟩) n3 n3 ff ∧ wr5 w.heap.size w4.heap.size W g4 n3) := HS4.out
  have R5 : St (w.heap.size + 3) w5 (fun W => isR8s W (some ⟨g5, 0, none⟩) n4 n4 qu ∧ wr8 w.heap.size w5.heap.size W g5 n4) := HS5.out
  have z3 : w2.heap.size ≤ w3.heap.size := by have := HX3.out.size; simpa using this
  have z4 : w3.heap.size ≤ w4.heap.size := by have := HX4.out.size; simpa using this
  have z5 : w4.heap.size ≤ w5.heap.size := by have := HX5.out.size; simpa using this
  have R2 := (((((T2.set _ 4 (by omega) _).below HX3.out).set _ 5 (by omega) _).below HX4.out).set _ 6 (by omega) _).below HX5.out
  have R3 := (((T3.set _ 5 (by omega) _).below HX4.out).set _ 6 (by omega) _).below HX5.out
  have R4 := (T4.set _ 6 (by omega) _).below HX5.out
  have R : St (w.heap.size + 3) w5 (fun W => isHo W ⟨c0, c1, c2, c3, fs, bx, ff, qu, lo, st⟩ ⟨some ⟨g2, 0, none⟩, n1, n1, some ⟨g3, 0, none⟩, n2, n2, some ⟨g4, 0, none⟩, n3, n3, some ⟨g5, 0, none⟩, n4, n4⟩ ∧ wrHo w.heap.size w5.heap.size W ⟨some ⟨g2, 0, none⟩, n1, n1, some ⟨g3, 0, none⟩, n2, n2, some ⟨g4, 0, none⟩, n3, n3, some ⟨g5, 0, none⟩, n4, n4⟩) := fun W hW => ⟨⟨(R2 W hW).1, (R3 W hW).1, (R4 W hW).1, (R5 W hW).1⟩, ⟨⟨g2, g3, g4, g5, rfl, (R2 W hW).2, ⟨HG2.out.1, by have := HG2.out.2; omega⟩, (R3 W hW).2.mono (Nat.le_refl _) (by omega), (R4 W hW).2.mono (Nat.le_refl _) (by omega), (R5 W hW).2⟩⟩⟩
  refine ⟨_, rfl, St.mono ?_ (Nat.le_add_right _ 3), ?_⟩
  · repeat refine St.set ?_ _ _ (by omega) _
    simpa using R
  · repeat refine Below.setCell ?_ (by simp; try omega) _
    exact HB5.out
theorem toHost_any (w : World) (H : Ho) (s : Sl) (h : isHo w H s) (hn : H.le 1048576) :
    Calls Tryz.prog 36 #[hoV H s] w fun o w' => ∃ s', o = .returned (hoV H s') ∧ St w.heap.size w' (fun W => isHo W H s') ∧ Below w.heap.size w w' := by
  refine (toHost_wr w H s h hn).mono ?_
  rintro o w' ⟨s', rfl, h1, h2⟩
  exact ⟨s', rfl, fun W hW => (h1 W hW).1, h2⟩
end Go.Proofs.YtaamahohdnbpiaaGreat
