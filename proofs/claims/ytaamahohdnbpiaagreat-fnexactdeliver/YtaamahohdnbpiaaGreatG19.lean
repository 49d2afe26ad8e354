import Derived.Test.YtaamahohdnbpiaaGreatG18
import Derived.Test.YtaamahohdnbpiaaGreatG17
namespace Go.Proofs.YtaamahohdnbpiaaGreat
open Go.RowKit
set_option linter.unusedVariables false
theorem callBoxI {w X : World} (hX : Below w.heap.size w X) (hz : w.heap.size + 3 ≤ X.heap.size) {a : Option Addr} {n cap : Nat} {bs : List R8} (h : isR8s w a n cap bs) (hn : bs.length ≤ 1048576) (hd : ∀ j (h : j < bs.length), bs[j].l.length ≤ 1048576) :
    Calls Tryz.prog 88 #[.slice a n cap] X fun e w' => ∃ g, e = .returned (.slice (some ⟨g, 0, none⟩) n n) ∧ St (w.heap.size + 3) w' (fun W => isR8s W (some ⟨g, 0, none⟩) n n bs ∧ wr8 X.heap.size w'.heap.size W g n) ∧ Below X.heap.size X w' ∧ Below w.heap.size w w' ∧ w.heap.size + 3 ≤ w'.heap.size ∧ Keep3 w.heap.size X w' := by
  refine (toBoxS_any X a n cap bs (h.below hX) (by have := h.len; omega) hd).mono ?_
  rintro e w' ⟨g, rfl, h1, h2⟩
  have h1 := h1.mono hz
  exact ⟨g, rfl, fun W hW => ⟨(h1 W hW).1, (h1 W hW).2⟩, h2, hX.trans (h2.mono hX.size), Nat.le_trans hz h2.size, keep3 h2 hz⟩
theorem callFrameI {w X : World} (hX : Below w.heap.size w X) (hz : w.heap.size + 3 ≤ X.heap.size) {a : Option Addr} {n cap : Nat} {bs : List R5} (h : isR5s w a n cap bs) (hn : bs.length ≤ 1048576) (hd : ∀ j (h : j < bs.length), bs[j].l.length ≤ 1048576) :
    Calls Tryz.prog 89 #[.slice a n cap] X fun e w' => ∃ g, e = .returned (.slice (some ⟨g, 0, none⟩) n n) ∧ St (w.heap.size + 3) w' (fun W => isR5s W (some ⟨g, 0, none⟩) n n bs ∧ wr5 X.heap.size w'.heap.size W g n) ∧ Below X.heap.size X w' ∧ Below w.heap.size w w' ∧ w.heap.size + 3 ≤ w'.heap.size ∧ Keep3 w.heap.size X w' := by
  refine (toFrameS_any X a n cap bs (h.below hX) (by have := h.len; omega) hd).mono ?_
  rintro e w' ⟨g, rfl, h1, h2⟩
  have h1 := h1.mono hz
  exact ⟨g, rfl, fun W hW => ⟨(h1 W hW).1, (h1 W hW).2⟩, h2, hX.trans (h2.mono hX.size), Nat.le_trans hz h2.size, keep3 h2 hz⟩
theorem callEventI {w X : World} (hX : Below w.heap.size w X) (hz : w.heap.size + 3 ≤ X.heap.size) {a : Option Addr} {n cap : Nat} {bs : List R8} (h : isR8s w a n cap bs) (hn : bs.length ≤ 1048576) (hd : ∀ j (h : j < bs.length), bs[j].l.length ≤ 1048576) :
    Calls Tryz.prog 90 #[.slice a n cap] X fun e w' => ∃ g, e = .returned (.slice (some ⟨g, 0, none⟩) n n) ∧ St (w.heap.size + 3) w' (fun W => isR8s W (some ⟨g, 0, none⟩) n n bs ∧ wr8 X.heap.size w'.heap.size W g n) ∧ Below X.heap.size X w' ∧ Below w.heap.size w w' ∧ w.heap.size + 3 ≤ w'.heap.size ∧ Keep3 w.heap.size X w' := by
  refine (toEventS_any X a n cap bs (h.below hX) (by have := h.len; omega) hd).mono ?_
  rintro e w' ⟨g, rfl, h1, h2⟩
  have h1 := h1.mono hz
  exact ⟨g, rfl, fun W hW => ⟨(h1 W hW).1, (h1 W hW).2⟩, h2, hX.trans (h2.mono hX.size), Nat.le_trans hz h2.size, keep3 h2 hz⟩
structure ivHo (B T : Nat) (W : World) (s : Sl) : Prop where
  e : ∃ g1 g2 g3 g4 T1 T2 T3, s = ⟨some ⟨g1, 0, none⟩, s.n1, s.n1, some ⟨g2, 0, none⟩, s.n2, s.n2, some ⟨g3, 0, none⟩, s.n3, s.n3, some ⟨g4, 0, none⟩, s.n4, s.n4⟩ ∧ rowF W g1 (s.n1 * 3) ∧ (B ≤ g1 ∧ g1 < T1) ∧ (B ≤ T1 ∧ T1 ≤ T2 ∧ T2 ≤ T3 ∧ T3 ≤ T) ∧ wr8 T1 T2 W g2 s.n2 ∧ wr5 T2 T3 W g3 s.n3 ∧ wr8 T3 T W g4 s.n4
set_option maxHeartbeats 4000000 in
set_option maxRecDepth 20000 in
theorem toHost_iv (w : World) (H : Ho) (s : Sl) (h : isHo w H s) (hn : H.le 1048576) :
    Calls Tryz.prog 36 #[hoV H s] w fun o w' => ∃ s', o = .returned (hoV H s') ∧ St w.heap.size w' (fun W => isHo W H s' ∧ ivHo w.heap.size w'.heap.size W s') ∧ Below w.heap.size w w' := by
  have HH : Hid (isHo w H s) := h
  have HN : Hid (H.le 1048576) := hn
  clear h hn
  obtain ⟨c0, c1, c2, c3, fs, bx, ff, qu, lo, st⟩ := H
  obtain ⟨a1, n1, k1, a2, n2, k2, a3, n3, k3, a4, n4, k4⟩ := s
  go_enter Tryz.func36, Tryz.ntmps36
  go_wp2_with (first | (go_at_call 86; refine (toConfig_any _ _ _ _ _).mono ?_; rintro o w1 ⟨rfl, hb1⟩; obtain ⟨cp1, cr1, co1, fr1, fo1⟩ := keep3 (b := w.heap.size) hb1 (by simp); have HB1 : Hid (Below w.heap.size w w1) := ((((Below.refl w.heap.size w).alloc (Nat.le_refl _) _).alloc (by simp) _).alloc (by simp; omega) _).trans (hb1.mono (by simp; omega)); have HZ1 : Hid (w.heap.size + 3 ≤ w1.heap.size) := (by have := hb1.size; simp at this; exact this); clear hb1) | (go_at_call 87; refine (callFilter (by (repeat refine Below.setCell ?_ (by simp; try omega) _); exact HB1.out) (by simpa using HZ1.out) HH.out.fs HN.out.fs).mono ?_; rintro o w2 ⟨g2, rfl, S2, G2, X2, B2, Z2, K2⟩; have HG2 : Hid (w.heap.size ≤ g2 ∧ g2 < w2.heap.size) := G2; clear G2; obtain ⟨cp2, cr2, co2, fr2, fo2⟩ := K2; have HS2 : Hid _ := S2; have HX2 : Hid _ := X2; have HB2 : Hid (Below w.heap.size w w2) := B2; have HZ2 : Hid (w.heap.size + 3 ≤ w2.heap.size) := Z2; clear S2 X2 B2 Z2) | (go_at_call 88; refine (callBoxI (by (repeat refine Below.setCell ?_ (by simp; try omega) _); exact HB2.out) (by simpa using HZ2.out) HH.out.bx HN.out.bx HN.out.bd).mono ?_; rintro o w3 ⟨g3, rfl, S3, X3, B3, Z3, K3⟩; obtain ⟨cp3, cr3, co3, fr3, fo3⟩ := K3; have HS3 : Hid _ := S3; have HX3 : Hid _ := X3; have HB3 : Hid (Below w.heap.size w w3) := B3; have HZ3 : Hid (w.heap.size + 3 ≤ w3.heap.size) := Z3; clear S3 X3 B3 Z3) | (go_at_call 89; refine (callFrameI (by (repeat refine Below.setCell ?_ (by simp; try omega) _); exact HB3.out) (by simpa using HZ3.out) HH.out.ff HN.out.ff HN.out.fd).mono ?_; rintro o w4 ⟨g4, rfl, S4, X4, B4, Z4, K4⟩; obtain ⟨cp4, cr4, co4, fr4, fo4⟩ := K4; have HS4 : Hid _ := S4; have HX4 : Hid _ := X4; have HB4 : Hid (Below w.heap.size w w4) := B4; have HZ4 : Hid (w.heap.size + 3 ≤ w4.heap.size) := Z4; clear S4 X4 B4 Z4) | (go_at_call 90; refine (callEventI (by (repeat refine Below.setCell ?_ (by simp; try omega) _); exact HB4.out) (by simpa using HZ4.out) HH.out.qu HN.out.qu HN.out.qd).mono ?_; rintro o w5 ⟨g5, rfl, S5, X5, B5, Z5, K5⟩; obtain ⟨cp5, cr5, co5, fr5, fo5⟩ := K5; have HS5 : Hid _ := S5; have HX5 : Hid _ := X5; have HB5 : Hid (Below w.heap.size w w5) := B5; have HZ5 : Hid (w.heap.size + 3 ≤ w5.heap.size) := Z5; clear S5 X5 B5 Z5))
  refine bodyPost_ret (v := hoV ⟨c0, c1, c2, c3, fs, bx, ff, qu, lo, st⟩ ⟨some ⟨g2, 0, none⟩, n1, n1, some ⟨g3, 0, none⟩, n2, n2, some ⟨g4, 0, none⟩, n3, n3, some ⟨g5, 0, none⟩, n4, n4⟩) (by simp [results, Tryz.results36, go_sem, cr5, cr4, cr3, cr2, cr1]) rfl ?_
  have T2 : St (w.heap.size + 3) w2 (fun W => isR3s W (some ⟨g2, 0, none⟩) n1 n1 fs ∧ rowF W g2 (n1 * 3)) := HS2.out
  have T3 : St (w.heap.size + 3) w3 (fun W => isR8s W (some ⟨g3, 0, none⟩) n2 n2 bx ∧ wr8 w2.heap.size w3.heap.size W g3 n2) := by intro W hW; simpa using HS3.out W hW
  have T4 : St (w.heap.size + 3) w4 (fun W => isR5s W (some ⟨g4, 0, none⟩) n3 n3 ff ∧ wr5 w3.heap.size w4.heap.size W g4 n3) := by intro W hW; simpa using HS4.out W hW
  have R5 : St (w.heap.size + 3) w5 (fun W => isR8s W (some ⟨g5, 0, none⟩) n4 n4 qu ∧ wr8 w4.heap.size w5.heap.size W g5 n4) := by intro W hW; simpa using HS5.out W hW
  have hz2 : w.heap.size ≤ w2.heap.size ∧ w2.heap.size ≤ w3.heap.size ∧ w3.heap.size ≤ w4.heap.size ∧ w4.heap.size ≤ w5.heap.size := ⟨HB2.out.size, by have := HX3.out.size; simpa using this, by have := HX4.out.size; simpa using this, by have := HX5.out.size; simpa using this⟩
  have z3 : w2.heap.size ≤ w3.heap.size := by have := HX3.out.size; simpa using this
  have z4 : w3.heap.size ≤ w4.heap.size := by have := HX4.out.size; simpa using this
  have z5 : w4.heap.size ≤ w5.heap.size := by have := HX5.out.size; simpa using this
  have R2 := (((((T2.set _ 4 (by omega) _).below HX3.out).set _ 5 (by omega) _).below HX4.out).set _ 6 (by omega) _).below HX5.out
  have R3 := (((T3.set _ 5 (by omega) _).below HX4.out).set _ 6 (by omega) _).below HX5.out
  have R4 := (T4.set _ 6 (by omega) _).below HX5.out
  have R : St (w.heap.size + 3) w5 (fun W => isHo W ⟨c0, c1, c2, c3, fs, bx, ff, qu, lo, st⟩ ⟨some ⟨g2, 0, none⟩, n1, n1, some ⟨g3, 0, none⟩, n2, n2, some ⟨g4, 0, none⟩, n3, n3, some ⟨g5, 0, none⟩, n4, n4⟩ ∧ ivHo w.heap.size w5.heap.size W ⟨some ⟨g2, 0, none⟩, n1, n1, some ⟨g3, 0, none⟩, n2, n2, some ⟨g4, 0, none⟩, n3, n3, some ⟨g5, 0, none⟩, n4, n4⟩) := fun W hW => ⟨⟨(R2 W hW).1, (R3 W hW).1, (R4 W hW).1, (R5 W hW).1⟩, ⟨⟨g2, g3, g4, g5, w2.heap.size, w3.heap.size, w4.heap.size, rfl, (R2 W hW).2, HG2.out, hz2, (R3 W hW).2, (R4 W hW).2, (R5 W hW).2⟩⟩⟩
  refine ⟨_, rfl, St.mono ?_ (Nat.le_add_right _ 3), ?_⟩
  · repeat refine St.set ?_ _ _ (by omega) _
    simpa using R
  · repeat refine Below.setCell ?_ (by simp; try omega) _
    exact HB5.out
theorem wr8.sh {B T : Nat} {W : World} {g n : Nat} (h : wr8 B T W g n) (hm : ∀ j, j < n → ∀ a m c, W.cell? ⟨g, j * 8 + 7, none⟩ = some (.slice a m c) → m ≤ 1048576) : ∃ hs : Nat → Hd, sh8 W g n hs ∧ inn B T (some ⟨g, 0, none⟩) n hs := by
  have key : ∀ j, ∃ x : Hd, j < n → W.cell? ⟨g, j * 8 + 7, none⟩ = some (.slice x.1 x.2.1 x.2.2) ∧ hd W g x ∧ ∀ b, x.1 = some ⟨b, 0, none⟩ → B ≤ b ∧ b < T := by
    intro j
    by_cases hj : j < n
    · obtain ⟨gd, m, h1, h2, h3, h4, h5⟩ := h.dat j hj
      exact ⟨(some ⟨gd, 0, none⟩, m, m), fun _ => ⟨h1, ⟨hm j hj _ _ _ h1, Nat.le_refl _, Or.inr ⟨gd, rfl, h3, h2⟩⟩, fun b hb => by cases hb; exact ⟨h4, h5⟩⟩⟩
    · exact ⟨(none, 0, 0), fun e => absurd e hj⟩
  refine ⟨fun j => Classical.choose (key j), ⟨h.row, fun j hj => ⟨(Classical.choose_spec (key j) hj).1, (Classical.choose_spec (key j) hj).2.1⟩⟩, fun x hx => ?_⟩
  rcases hx with e | ⟨j, hj, e⟩
  · cases e; exact ⟨h.lo, h.hi⟩
  · exact (Classical.choose_spec (key j) hj).2.2 x e
theorem isR8s.hdr {W : World} {g n cap : Nat} {bs : List R8} (h : isR8s W (some ⟨g, 0, none⟩) n cap bs) (hd : ∀ j (h : j < bs.length), bs[j].l.length ≤ 1048576) : ∀ j, j < n → ∀ a m c, W.cell? ⟨g, j * 8 + 7, none⟩ = some (.slice a m c) → m ≤ 1048576 := by
  intro j hj a m c hc
  have hl := h.len
  obtain ⟨g', off, e, hcs⟩ := h.cells (by intro e; subst e; simp at hl; omega)
  cases e
  obtain ⟨ao, m', c', hat⟩ := hcs j (by omega)
  have h1 := hat.cs
  rw [Nat.zero_add, hc] at h1
  cases h1
  have h2 := hat.dat.len
  have h3 := hd j (by omega)
  omega
theorem wr5.sh {B T : Nat} {W : World} {g n : Nat} (h : wr5 B T W g n) (hm : ∀ j, j < n → ∀ a m c, W.cell? ⟨g, j * 5 + 4, none⟩ = some (.slice a m c) → m ≤ 1048576) : ∃ hs : Nat → Hd, sh5 W g n hs ∧ inn B T (some ⟨g, 0, none⟩) n hs := by
  have key : ∀ j, ∃ x : Hd, j < n → W.cell? ⟨g, j * 5 + 4, none⟩ = some (.slice x.1 x.2.1 x.2.2) ∧ hd W g x ∧ ∀ b, x.1 = some ⟨b, 0, none⟩ → B ≤ b ∧ b < T := by
    intro j
    by_cases hj : j < n
    · obtain ⟨gd, m, h1, h2, h3, h4, h5⟩ := h.dat j hj
      exact ⟨(some ⟨gd, 0, none⟩, m, m), fun _ => ⟨h1, ⟨hm j hj _ _ _ h1, Nat.le_refl _, Or.inr ⟨gd, rfl, h3, h2⟩⟩, fun b hb => by cases hb; exact ⟨h4, h5⟩⟩⟩
    · exact ⟨(none, 0, 0), fun e => absurd e hj⟩
  refine ⟨fun j => Classical.choose (key j), ⟨h.row, fun j hj => ⟨(Classical.choose_spec (key j) hj).1, (Classical.choose_spec (key j) hj).2.1⟩⟩, fun x hx => ?_⟩
  rcases hx with e | ⟨j, hj, e⟩
  · cases e; exact ⟨h.lo, h.hi⟩
  · exact (Classical.choose_spec (key j) hj).2.2 x e
theorem isR5s.hdr {W : World} {g n cap : Nat} {bs : List R5} (h : isR5s W (some ⟨g, 0, none⟩) n cap bs) (hd : ∀ j (h : j < bs.length), bs[j].l.length ≤ 1048576) : ∀ j, j < n → ∀ a m c, W.cell? ⟨g, j * 5 + 4, none⟩ = some (.slice a m c) → m ≤ 1048576 := by
  intro j hj a m c hc
  have hl := h.len
  obtain ⟨g', off, e, hcs⟩ := h.cells (by intro e; subst e; simp at hl; omega)
  cases e
  obtain ⟨ao, m', c', hat⟩ := hcs j (by omega)
  have h1 := hat.cs
  rw [Nat.zero_add, hc] at h1
  cases h1
  have h2 := hat.dat.len
  have h3 := hd j (by omega)
  omega
theorem inn.mono {B T B' T' : Nat} {a : Option Addr} {n : Nat} {hs : Nat → Hd} (h : inn B T a n hs) (hB : B' ≤ B) (hT : T ≤ T') : inn B' T' a n hs := fun x hx => by have := h x hx; omega
theorem inn.apart {B T B' T' : Nat} {a a' : Option Addr} {n n' : Nat} {hs hs' : Nat → Hd} (h : inn B T a n hs) (h' : inn B' T' a' n' hs') (hB : T ≤ B') : ∀ x, ft a n hs x → ¬ ft a' n' hs' x := fun x h1 h2 => by have := h x h1; have := h' x h2; omega
theorem inn.out {B T : Nat} {a : Option Addr} {n : Nat} {hs : Nat → Hd} (h : inn B T a n hs) {x : Nat} (hx : x < B ∨ T ≤ x) : ¬ ft a n hs x := fun h1 => by have := h x h1; omega
theorem ivHo.wh {B T : Nat} {W : World} {s : Sl} {H : Ho} (h : ivHo B T W s) (hi : isHo W H s) (hn : H.le 1048576) : ∃ s' : Wh, s = s'.sl ∧ whS B T W s' ∧ whD s' := by
  obtain ⟨g1, g2, g3, g4, T1, T2, T3, e, f1, f2, f3, x2, x3, x4⟩ := h.e
  have ea2 : s.a2 = some ⟨g2, 0, none⟩ := by rw [e]
  have ea3 : s.a3 = some ⟨g3, 0, none⟩ := by rw [e]
  have ea4 : s.a4 = some ⟨g4, 0, none⟩ := by rw [e]
  have m1 : s.n1 ≤ 1048576 := by have := hi.fs.len; have := hn.fs; omega
  have m2 : s.n2 ≤ 1048576 := by have := hi.bx.len; have := hn.bx; omega
  have m3 : s.n3 ≤ 1048576 := by have := hi.ff.len; have := hn.ff; omega
  have m4 : s.n4 ≤ 1048576 := by have := hi.qu.len; have := hn.qu; omega
  have y2 := hi.bx
  have y3 := hi.ff
  have y4 := hi.qu
  rw [ea2] at y2
  rw [ea3] at y3
  rw [ea4] at y4
  obtain ⟨h2, s2, i2⟩ := x2.sh (y2.hdr hn.bd)
  obtain ⟨h3, s3, i3⟩ := x3.sh (y3.hdr hn.fd)
  obtain ⟨h4, s4, i4⟩ := x4.sh (y4.hdr hn.qd)
  refine ⟨⟨g1, s.n1, s.n1, some ⟨g2, 0, none⟩, s.n2, s.n2, h2, some ⟨g3, 0, none⟩, s.n3, s.n3, h3, some ⟨g4, 0, none⟩, s.n4, s.n4, h4⟩, e, ⟨f1, Nat.le_refl _, ⟨f2.1, by simp only; omega⟩, Or.inr ⟨g2, rfl, s2, Nat.le_refl _⟩, i2.mono (by omega) (by omega), Or.inr ⟨g3, rfl, s3, Nat.le_refl _⟩, i3.mono (by omega) (by omega), Or.inr ⟨g4, rfl, s4, Nat.le_refl _⟩, i4.mono (by omega) (by omega), m1, m2, m3, m4⟩, ⟨i2.out (Or.inl f2.2), i3.out (Or.inl (by simp only; omega)), i4.out (Or.inl (by simp only; omega)), i2.apart i3 (Nat.le_refl _), i2.apart i4 (by omega), i3.apart i4 (Nat.le_refl _)⟩⟩
end Go.Proofs.YtaamahohdnbpiaaGreat
namespace Go.Proofs.YtaamahohdnbpiaaGreat
open Go.RowKit
set_option linter.unusedVariables false
structure dr3 (b0 : World) (g n : Nat) (fs : List R3) (W : World) : Prop where
  len : n = fs.length
  row : rowF W g (n * 3)
  at_ : ∀ j (h : j < fs.length), at3 W g (j * 3) fs[j]
  lo : b0.heap.size ≤ g
  hi : g < W.heap.size
  m : n ≤ 1048576
theorem dr3.same {b0 W W' : World} {g n : Nat} {fs : List R3} (h : dr3 b0 g n fs W) (he : W'.heap[g]? = W.heap[g]?) (hz : W.heap.size ≤ W'.heap.size) : dr3 b0 g n fs W' :=
  ⟨h.len, h.row.up he, fun j hj => (h.at_ j hj).up he, h.lo, Nat.lt_of_lt_of_le h.hi hz, h.m⟩
theorem dr3.below {b0 W W' : World} {g n : Nat} {fs : List R3} (h : dr3 b0 g n fs W) (hb : Below W.heap.size W W') : dr3 b0 g n fs W' := h.same (hb.block _ h.hi) hb.size
theorem clone3_dr (w : World) (b0 : World) (g n cap : Nat) (bs : List R3) (h : isR3s w (some ⟨g, 0, none⟩) n cap bs) (hn : n ≤ 1048576) (hb0 : b0.heap.size ≤ w.heap.size) :
    Calls Tryz.prog 55 #[.slice (some ⟨g, 0, none⟩) n cap] w fun e w' => ∃ g' cap', e = .returned (.slice (some ⟨g', 0, none⟩) n cap') ∧ w.heap.size ≤ g' ∧ n ≤ cap' ∧ dr3 b0 g' n bs w' ∧ Below w.heap.size w w' := by
  refine (clone_any w g n cap bs h hn).mono ?_
  rintro e w' ⟨v', rfl, ho, hv, hbw⟩
  rcases ownsRow_split ho with ⟨e, _⟩ | ⟨g', cap', rfl, hb, hlt, hcp, hrf, hrg⟩
  · exact absurd e hv
  · refine ⟨g', cap', rfl, hb, hcp, ⟨h.len, hrf, fun j hj => ?_, by omega, hlt, hn⟩, hbw⟩
    obtain ⟨y0, y1, y2⟩ := c3_at bs j hj
    have q := fun t u hu => hrg t u hu
    simp only [Nat.zero_add] at q
    exact ⟨q _ _ y0, q _ _ y1, q _ _ y2⟩
theorem c5_at (bs : List X5) : ∀ j (h : j < bs.length) t, t < 5 → (c5 bs)[j * 5 + t]? = (x5 bs[j])[t]? := by
  induction bs with
  | nil => intro j h; exact absurd h (Nat.not_lt_zero _)
  | cons b bs ih =>
    intro j h t ht
    cases j with
    | zero =>
      simp only [c5, List.flatMap_cons, Nat.zero_mul, Nat.zero_add]
      rw [List.getElem?_append_left (by simpa [x5, f5] using ht)]
      rfl
    | succ j =>
      have e : (j + 1) * 5 + t = 5 + (j * 5 + t) := by omega
      rw [e]
      simp only [c5, List.flatMap_cons]
      rw [List.getElem?_append_right (by simp [x5, f5])]
      have := ih j (by simpa using h) t ht
      simp only [c5] at this
      simpa [x5, f5] using this
theorem dr8.step {b0 W w1 : World} {U g n : Nat} {bx : List R8} {hs : Nat → Hd} {k : Nat} (h : dr8 b0 U g n bx hs k W) (hk : k < bx.length) (hU : U ≤ W.heap.size) (hgU : g < U) (a' : Option Addr) (c' : Nat) (ho : ownA W.heap.size a' (hs k).2.1 w1) (hi : ∀ W', (∀ b, a' = some ⟨b, 0, none⟩ → W'.heap[b]? = w1.heap[b]?) → isBytes W' a' (hs k).2.1 c' bx[k].l) (hb : Below W.heap.size W w1) : ∃ hs', dr8 b0 U g n bx hs' (k + 1) (w1.setCell ⟨g, k * 8 + 7, none⟩ (.slice a' (hs k).2.1 c')) := by
  have h1 := h.below hb
  have hln := h.len
  have oth : ∀ x, x ≠ g → (w1.setCell ⟨g, k * 8 + 7, none⟩ (.slice a' (hs k).2.1 c')).heap[x]? = w1.heap[x]? := fun x hx => heap_setCell_other w1 ⟨g, k * 8 + 7, none⟩ x _ hx
  have hsz : (w1.setCell ⟨g, k * 8 + 7, none⟩ (.slice a' (hs k).2.1 c')).heap.size = w1.heap.size := by simp
  have hbelow : Below b0.heap.size b0 (w1.setCell ⟨g, k * 8 + 7, none⟩ (.slice a' (hs k).2.1 c')) := h1.bel.setCell (by exact h1.lo) _
  refine ⟨fun j => if j = k then (a', (hs k).2.1, c') else hs j, h.len, h1.row.setCell _ _, fun j hj => ?_, fun j hj hkj => ?_, fun j hj hkj => ?_, ?_, h.lo, by rw [hsz]; exact h1.hi, hbelow, h.sm⟩
  · intro t u hu
    have ht : t < 8 := by have := (List.getElem?_eq_some_iff.mp hu).1; simpa [x8] using this
    by_cases e : j = k
    · subst e
      rw [if_pos rfl] at hu
      by_cases e7 : t = 7
      · subst e7
        have e8 : u = .slice a' (hs j).2.1 c' := by simpa [x8] using hu.symm
        rw [e8]
        exact World.cell?_setCell_same _ _ _ (h1.rng j hj 7 _ rfl)
      · rw [World.cell?_setCell_other _ _ _ _ (by intro hh; simp at hh <;> omega)]
        refine h1.rng j hj t u ?_
        rw [← hu]
        have : t = 0 ∨ t = 1 ∨ t = 2 ∨ t = 3 ∨ t = 4 ∨ t = 5 ∨ t = 6 := by omega
        rcases this with rfl | rfl | rfl | rfl | rfl | rfl | rfl <;> rfl
    · rw [if_neg e] at hu
      rw [World.cell?_setCell_other _ _ _ _ (by intro hh; simp at hh <;> omega)]
      exact h1.rng j hj t u hu
  · rw [if_neg (by omega)]
    exact h.old j hj (by omega)
  · by_cases e : j = k
    · subst e
      rw [if_pos rfl]
      have hag : ∀ b, a' = some ⟨b, 0, none⟩ → b ≠ g := by
        intro b hb'
        rcases ho with ⟨e, _⟩ | ⟨b2, e, h2, _⟩
        · rw [hb'] at e; cases e
        · rw [hb'] at e; cases e; omega
      refine ⟨hi _ (fun b hb' => oth b (hag b hb')), ?_⟩
      rcases ho with ⟨e1, e2⟩ | ⟨b, e1, e2, e3, e4⟩
      · exact Or.inl ⟨e1, e2⟩
      · exact Or.inr ⟨b, e1, by omega, by rw [hsz]; exact e3, e4.up (oth b (hag b e1))⟩
    · rw [if_neg e]
      have hjk : j < k := by omega
      obtain ⟨q1, q2⟩ := h1.new j hj hjk
      rcases q2 with ⟨e1, e2⟩ | ⟨b, e1, e2, e3, e4⟩
      · refine ⟨⟨q1.len, q1.cap, q1.small, fun hne => ?_⟩, Or.inl ⟨e1, e2⟩⟩
        exact absurd (List.length_pos_iff.2 hne) (by have := q1.len; omega)
      · have hbg : b ≠ g := by omega
        rw [e1] at q1 ⊢
        exact ⟨q1.other (oth b hbg), Or.inr ⟨b, rfl, e2, by rw [hsz]; exact e3, e4.up (oth b hbg)⟩⟩
  · intro i j hij hjk b hb'
    have hik : i < k := by omega
    simp only [if_neg (show i ≠ k by omega)] at hb'
    by_cases e : j = k
    · subst e
      simp only [if_true]
      intro hb2
      rcases ho with ⟨e1, _⟩ | ⟨b2, e1, e2, _⟩
      · rw [hb2] at e1; cases e1
      · rw [hb2] at e1
        cases e1
        rcases (h.new i (by omega) hik).2 with ⟨e3, _⟩ | ⟨b3, e3, _, e5, _⟩
        · rw [hb'] at e3; cases e3
        · rw [hb'] at e3; cases e3; omega
    · simp only [if_neg e]
      exact h.dst i j hij (by omega) b hb'
theorem dr8.sh {b0 W : World} {U g n : Nat} {bx : List R8} {hs : Nat → Hd} (h : dr8 b0 U g n bx hs n W) (hgU : g < U) : sh8 W g n hs ∧ (∀ j, j < n → ∀ b, (hs j).1 = some ⟨b, 0, none⟩ → U ≤ b ∧ b < W.heap.size) := by
  have hln := h.len
  refine ⟨⟨h.row, fun j hj => ⟨(h.at_ j (by omega)).cs, ?_⟩⟩, ?_⟩
  · have q := h.new j (by omega) hj
    have q1 := q.1.len
    have q2 := h.sm j (by omega)
    refine ⟨by omega, q.1.cap, ?_⟩
    rcases q.2 with e | ⟨b, e1, e2, e3, e4⟩
    · exact Or.inl e
    · exact Or.inr ⟨b, e1, by omega, e4⟩
  · intro j hj b hb
    rcases (h.new j (by omega) hj).2 with ⟨e, _⟩ | ⟨b2, e1, e2, e3, e4⟩
    · rw [hb] at e; cases e
    · rw [hb] at e1; cases e1; exact ⟨e2, e3⟩
structure dr5 (b0 : World) (U g n : Nat) (bx : List R5) (hs : Nat → Hd) (k : Nat) (W : World) : Prop where
  len : n = bx.length
  row : rowF W g (n * 5)
  rng : ∀ j (h : j < bx.length), W.rangeAt g (j * 5) (x5 (bx[j], hs j))
  old : ∀ j (h : j < bx.length), k ≤ j → isBytes b0 (hs j).1 (hs j).2.1 (hs j).2.2 bx[j].l
  new : ∀ j (h : j < bx.length), j < k → isBytes W (hs j).1 (hs j).2.1 (hs j).2.2 bx[j].l ∧ (((hs j).1 = none ∧ (hs j).2.1 = 0) ∨ ∃ b, (hs j).1 = some ⟨b, 0, none⟩ ∧ U ≤ b ∧ b < W.heap.size ∧ rowF W b (hs j).2.1)
  dst : dst hs k
  lo : b0.heap.size ≤ g
  hi : g < W.heap.size
  bel : Below b0.heap.size b0 W
  sm : ∀ j (h : j < bx.length), bx[j].l.length ≤ 1048576
theorem dr5.same {b0 W W' : World} {U g n : Nat} {bx : List R5} {hs : Nat → Hd} {k : Nat} (h : dr5 b0 U g n bx hs k W) (he : ∀ x, x = g ∨ U ≤ x → x < W.heap.size → W'.heap[x]? = W.heap[x]?) (hz : W.heap.size ≤ W'.heap.size) (hb : Below b0.heap.size b0 W') : dr5 b0 U g n bx hs k W' :=
  ⟨h.len, h.row.up (he g (Or.inl rfl) h.hi), fun j hj => (rangeAt.up (h.rng j hj) (he g (Or.inl rfl) h.hi)), h.old, fun j hj hk => by
    obtain ⟨h1, h2⟩ := h.new j hj hk
    rcases h2 with ⟨e1, e2⟩ | ⟨b, e1, e2, e3, e4⟩
    · refine ⟨⟨h1.len, h1.cap, h1.small, fun hne => ?_⟩, Or.inl ⟨e1, e2⟩⟩
      exact absurd (List.length_pos_iff.2 hne) (by have := h1.len; omega)
    · rw [e1] at h1 ⊢
      exact ⟨h1.other (he b (Or.inr e2) e3), Or.inr ⟨b, rfl, e2, Nat.lt_of_lt_of_le e3 hz, e4.up (he b (Or.inr e2) e3)⟩⟩, h.dst, h.lo, Nat.lt_of_lt_of_le h.hi hz, hb, h.sm⟩
theorem dr5.below {b0 W W' : World} {U g n : Nat} {bx : List R5} {hs : Nat → Hd} {k : Nat} (h : dr5 b0 U g n bx hs k W) (hb : Below W.heap.size W W') : dr5 b0 U g n bx hs k W' :=
  h.same (fun x _ hx => hb.block x hx) hb.size (h.bel.trans (hb.mono h.bel.size))
theorem dr5.start {b0 W : World} {B U g n : Nat} {L : List R5} (bs : List X5) (hm : bs.map (·.1) = L) (hby : ∀ j (hj : j < bs.length), isBytes b0 bs[j].2.1 bs[j].2.2.1 bs[j].2.2.2 bs[j].1.l) (hn : n = L.length) (hr : rowF W g (n * 5)) (hg : W.rangeAt g 0 (c5 bs)) (hlo : b0.heap.size ≤ g) (hhi : g < W.heap.size) (hb : Below b0.heap.size b0 W) (hsm : ∀ j (h : j < L.length), L[j].l.length ≤ 1048576) : dr5 b0 U g n L (fun j => (bs.getD j (⟨false, 0, false, 0, []⟩, none, 0, 0)).2) 0 W := by
  subst hm
  have hl : (bs.map (·.1)).length = bs.length := by simp
  refine ⟨hn, hr, fun j hj => ?_, fun j hj _ => ?_, fun j hj hk => absurd hk (Nat.not_lt_zero _), fun i j _ hj => absurd hj (Nat.not_lt_zero _), hlo, hhi, hb, hsm⟩
  · have hj' : j < bs.length := by omega
    have e : ((bs.map (·.1))[j], (bs.getD j (⟨false, 0, false, 0, []⟩, none, 0, 0)).2) = bs[j] := by simp [List.getD, hj']
    rw [e]
    intro t u hu
    have ht : t < 5 := by have := (List.getElem?_eq_some_iff.mp hu).1; simpa [x5, f5] using this
    rw [← c5_at bs j hj' t ht] at hu
    have := hg _ _ hu
    rw [Nat.zero_add] at this
    exact this
  · have hj' : j < bs.length := by omega
    have := hby j hj'
    simpa [List.getD, hj'] using this
theorem dr5.at_ {b0 W : World} {U g n : Nat} {bx : List R5} {hs : Nat → Hd} {k : Nat} (h : dr5 b0 U g n bx hs k W) (j : Nat) (hj : j < bx.length) : at5 W g (j * 5) bx[j] (hs j).1 (hs j).2.1 (hs j).2.2 := by
  have hr := h.rng j hj
  refine ⟨hr 0 _ rfl, hr 1 _ rfl, hr 2 _ rfl, hr 3 _ rfl, hr 4 _ rfl, ?_⟩
  by_cases hk : j < k
  · exact (h.new j hj hk).1
  · exact (h.old j hj (by omega)).below h.bel
theorem dr5.is {b0 W : World} {U g n : Nat} {bx : List R5} {hs : Nat → Hd} {k cap : Nat} (h : dr5 b0 U g n bx hs k W) (hc : n ≤ cap) : isR5s W (some ⟨g, 0, none⟩) n cap bx :=
  ⟨h.len, hc, fun _ => ⟨g, 0, rfl, fun j hj => ⟨_, _, _, by rw [Nat.zero_add]; exact h.at_ j hj⟩⟩⟩
theorem dr5.step {b0 W w1 : World} {U g n : Nat} {bx : List R5} {hs : Nat → Hd} {k : Nat} (h : dr5 b0 U g n bx hs k W) (hk : k < bx.length) (hU : U ≤ W.heap.size) (hgU : g < U) (a' : Option Addr) (c' : Nat) (ho : ownA W.heap.size a' (hs k).2.1 w1) (hi : ∀ W', (∀ b, a' = some ⟨b, 0, none⟩ → W'.heap[b]? = w1.heap[b]?) → isBytes W' a' (hs k).2.1 c' bx[k].l) (hb : Below W.heap.size W w1) : ∃ hs', dr5 b0 U g n bx hs' (k + 1) (w1.setCell ⟨g, k * 5 + 4, none⟩ (.slice a' (hs k).2.1 c')) := by
  have h1 := h.below hb
  have hln := h.len
  have oth : ∀ x, x ≠ g → (w1.setCell ⟨g, k * 5 + 4, none⟩ (.slice a' (hs k).2.1 c')).heap[x]? = w1.heap[x]? := fun x hx => heap_setCell_other w1 ⟨g, k * 5 + 4, none⟩ x _ hx
  have hsz : (w1.setCell ⟨g, k * 5 + 4, none⟩ (.slice a' (hs k).2.1 c')).heap.size = w1.heap.size := by simp
  have hbelow : Below b0.heap.size b0 (w1.setCell ⟨g, k * 5 + 4, none⟩ (.slice a' (hs k).2.1 c')) := h1.bel.setCell (by exact h1.lo) _
  refine ⟨fun j => if j = k then (a', (hs k).2.1, c') else hs j, h.len, h1.row.setCell _ _, fun j hj => ?_, fun j hj hkj => ?_, fun j hj hkj => ?_, ?_, h.lo, by rw [hsz]; exact h1.hi, hbelow, h.sm⟩
  · intro t u hu
    have ht : t < 5 := by have := (List.getElem?_eq_some_iff.mp hu).1; simpa [x5, f5] using this
    by_cases e : j = k
    · subst e
      rw [if_pos rfl] at hu
      by_cases e7 : t = 4
      · subst e7
        have e8 : u = .slice a' (hs j).2.1 c' := by simpa [x5, f5] using hu.symm
        rw [e8]
        exact World.cell?_setCell_same _ _ _ (h1.rng j hj 4 _ rfl)
      · rw [World.cell?_setCell_other _ _ _ _ (by intro hh; simp at hh <;> omega)]
        refine h1.rng j hj t u ?_
        rw [← hu]
        have : t = 0 ∨ t = 1 ∨ t = 2 ∨ t = 3 := by omega
        rcases this with rfl | rfl | rfl | rfl <;> rfl
    · rw [if_neg e] at hu
      rw [World.cell?_setCell_other _ _ _ _ (by intro hh; simp at hh <;> omega)]
      exact h1.rng j hj t u hu
  · rw [if_neg (by omega)]
    exact h.old j hj (by omega)
  · by_cases e : j = k
    · subst e
      rw [if_pos rfl]
      have hag : ∀ b, a' = some ⟨b, 0, none⟩ → b ≠ g := by
        intro b hb'
        rcases ho with ⟨e, _⟩ | ⟨b2, e, h2, _⟩
        · rw [hb'] at e; cases e
        · rw [hb'] at e; cases e; omega
      refine ⟨hi _ (fun b hb' => oth b (hag b hb')), ?_⟩
      rcases ho with ⟨e1, e2⟩ | ⟨b, e1, e2, e3, e4⟩
      · exact Or.inl ⟨e1, e2⟩
      · exact Or.inr ⟨b, e1, by omega, by rw [hsz]; exact e3, e4.up (oth b (hag b e1))⟩
    · rw [if_neg e]
      have hjk : j < k := by omega
      obtain ⟨q1, q2⟩ := h1.new j hj hjk
      rcases q2 with ⟨e1, e2⟩ | ⟨b, e1, e2, e3, e4⟩
      · refine ⟨⟨q1.len, q1.cap, q1.small, fun hne => ?_⟩, Or.inl ⟨e1, e2⟩⟩
        exact absurd (List.length_pos_iff.2 hne) (by have := q1.len; omega)
      · have hbg : b ≠ g := by omega
        rw [e1] at q1 ⊢
        exact ⟨q1.other (oth b hbg), Or.inr ⟨b, rfl, e2, by rw [hsz]; exact e3, e4.up (oth b hbg)⟩⟩
  · intro i j hij hjk b hb'
    have hik : i < k := by omega
    simp only [if_neg (show i ≠ k by omega)] at hb'
    by_cases e : j = k
    · subst e
      simp only [if_true]
      intro hb2
      rcases ho with ⟨e1, _⟩ | ⟨b2, e1, e2, _⟩
      · rw [hb2] at e1; cases e1
      · rw [hb2] at e1
        cases e1
        rcases (h.new i (by omega) hik).2 with ⟨e3, _⟩ | ⟨b3, e3, _, e5, _⟩
        · rw [hb'] at e3; cases e3
        · rw [hb'] at e3; cases e3; omega
    · simp only [if_neg e]
      exact h.dst i j hij (by omega) b hb'
theorem dr5.sh {b0 W : World} {U g n : Nat} {bx : List R5} {hs : Nat → Hd} (h : dr5 b0 U g n bx hs n W) (hgU : g < U) : sh5 W g n hs ∧ (∀ j, j < n → ∀ b, (hs j).1 = some ⟨b, 0, none⟩ → U ≤ b ∧ b < W.heap.size) := by
  have hln := h.len
  refine ⟨⟨h.row, fun j hj => ⟨(h.at_ j (by omega)).cs, ?_⟩⟩, ?_⟩
  · have q := h.new j (by omega) hj
    have q1 := q.1.len
    have q2 := h.sm j (by omega)
    refine ⟨by omega, q.1.cap, ?_⟩
    rcases q.2 with e | ⟨b, e1, e2, e3, e4⟩
    · exact Or.inl e
    · exact Or.inr ⟨b, e1, by omega, e4⟩
  · intro j hj b hb
    rcases (h.new j (by omega) hj).2 with ⟨e, _⟩ | ⟨b2, e1, e2, e3, e4⟩
    · rw [hb] at e; cases e
    · rw [hb] at e1; cases e1; exact ⟨e2, e3⟩
end Go.Proofs.YtaamahohdnbpiaaGreat
namespace Go.Proofs.YtaamahohdnbpiaaGreat
open Go.Shelf Go.RowKit
set_option linter.unusedVariables false
def dx5 (b0 : World) (U : Nat) (a : Option Addr) (n c : Nat) (ff : List R5) (hs : Nat → Hd) (k : Nat) (W : World) : Prop := (a = none ∧ n = 0 ∧ c = 0 ∧ ff = []) ∨ ∃ g, a = some ⟨g, 0, none⟩ ∧ n ≤ c ∧ dr5 b0 U g n ff hs k W
def dx8 (b0 : World) (U : Nat) (a : Option Addr) (n c : Nat) (ff : List R8) (hs : Nat → Hd) (k : Nat) (W : World) : Prop := (a = none ∧ n = 0 ∧ c = 0 ∧ ff = []) ∨ ∃ g, a = some ⟨g, 0, none⟩ ∧ n ≤ c ∧ dr8 b0 U g n ff hs k W
theorem dx5.below {b0 W W' : World} {U : Nat} {a : Option Addr} {n c : Nat} {ff : List R5} {hs : Nat → Hd} {k : Nat} (h : dx5 b0 U a n c ff hs k W) (hb : Below W.heap.size W W') : dx5 b0 U a n c ff hs k W' := by
  rcases h with h | ⟨g, e, h1, h2⟩
  · exact Or.inl h
  · exact Or.inr ⟨g, e, h1, h2.below hb⟩
theorem dx8.below {b0 W W' : World} {U : Nat} {a : Option Addr} {n c : Nat} {ff : List R8} {hs : Nat → Hd} {k : Nat} (h : dx8 b0 U a n c ff hs k W) (hb : Below W.heap.size W W') : dx8 b0 U a n c ff hs k W' := by
  rcases h with h | ⟨g, e, h1, h2⟩
  · exact Or.inl h
  · exact Or.inr ⟨g, e, h1, h2.below hb⟩
theorem dx5.hi {b0 W : World} {U : Nat} {a : Option Addr} {n c : Nat} {ff : List R5} {hs : Nat → Hd} {k : Nat} (h : dx5 b0 U a n c ff hs k W) : ∀ g, a = some ⟨g, 0, none⟩ → g < W.heap.size := by
  rcases h with h | ⟨g, e, h1, h2⟩
  · intro g hg; rw [h.1] at hg; cases hg
  · intro g' hg; rw [e] at hg; cases hg; exact h2.hi
theorem dx8.hi {b0 W : World} {U : Nat} {a : Option Addr} {n c : Nat} {ff : List R8} {hs : Nat → Hd} {k : Nat} (h : dx8 b0 U a n c ff hs k W) : ∀ g, a = some ⟨g, 0, none⟩ → g < W.heap.size := by
  rcases h with h | ⟨g, e, h1, h2⟩
  · intro g hg; rw [h.1] at hg; cases hg
  · intro g' hg; rw [e] at hg; cases hg; exact h2.hi
theorem look5_dr (b0 w : World) (P o gs room first n : Nat) (L : List R5) (hn : n = L.length) (y0 : w.cell? ⟨P, o, none⟩ = some (.slice (some ⟨gs, 0, none⟩) room room)) (y1 : w.cell? ⟨P, o + 1, none⟩ = some (.int .i64 (first : Int))) (y2 : w.cell? ⟨P, o + 2, none⟩ = some (.int .i64 (n : Int))) (hr : ring5 b0 w gs room first L) (hfi : first < room) (h1 : 1 ≤ room ∧ room ≤ 1000) (hL : n ≤ room) (hb0 : Below b0.heap.size b0 w) (hsm : ∀ j (h : j < L.length), L[j].l.length ≤ 1048576) :
    Calls Tryz.prog 161 #[.pointer (some ⟨P, o, none⟩), .int .i64 (n : Int)] w fun e w' => ∃ a c hs, e = .returned (.slice a n c) ∧ (∀ g, a = some ⟨g, 0, none⟩ → w.heap.size ≤ g) ∧ dx5 b0 0 a n c L hs 0 w' ∧ Below w.heap.size w w' := by
  subst hn
  refine (look5_any b0 w P o gs room first L y0 y1 y2 hr hfi h1 hL).mono ?_
  rintro e w' ⟨v, bs, rfl, hm, hby, ho, hbw⟩
  rcases ownsRow_split ho with ⟨e1, e2⟩ | ⟨g', cap', rfl, hb, hlt, hcp, hrf, hrg⟩
  · refine ⟨none, 0, fun _ => (none, 0, 0), by rw [e1, e2], fun g hg => (by cases hg), Or.inl ⟨rfl, e2, rfl, List.length_eq_zero_iff.1 e2⟩, hbw⟩
  · exact ⟨some ⟨g', 0, none⟩, cap', _, rfl, fun g hg => by cases hg; exact hb, Or.inr ⟨g', rfl, hcp, dr5.start (B := 0) bs hm hby rfl hrf hrg (Nat.le_trans hb0.size hb) hlt (hb0.trans (hbw.mono hb0.size)) hsm⟩, hbw⟩
theorem look8_dr (b0 w : World) (P o gs room first n : Nat) (L : List R8) (hn : n = L.length) (y0 : w.cell? ⟨P, o, none⟩ = some (.slice (some ⟨gs, 0, none⟩) room room)) (y1 : w.cell? ⟨P, o + 1, none⟩ = some (.int .i64 (first : Int))) (y2 : w.cell? ⟨P, o + 2, none⟩ = some (.int .i64 (n : Int))) (hr : ring8 b0 w gs room first L) (hfi : first < room) (h1 : 1 ≤ room ∧ room ≤ 1000) (hL : n ≤ room) (hb0 : Below b0.heap.size b0 w) (hsm : ∀ j (h : j < L.length), L[j].l.length ≤ 1048576) :
    Calls Tryz.prog 162 #[.pointer (some ⟨P, o, none⟩), .int .i64 (n : Int)] w fun e w' => ∃ a c hs, e = .returned (.slice a n c) ∧ (∀ g, a = some ⟨g, 0, none⟩ → w.heap.size ≤ g) ∧ dx8 b0 0 a n c L hs 0 w' ∧ Below w.heap.size w w' := by
  subst hn
  refine (look8_any b0 w P o gs room first L y0 y1 y2 hr hfi h1 hL).mono ?_
  rintro e w' ⟨v, bs, rfl, hm, hby, ho, hbw⟩
  rcases ownsRow_split ho with ⟨e1, e2⟩ | ⟨g', cap', rfl, hb, hlt, hcp, hrf, hrg⟩
  · refine ⟨none, 0, fun _ => (none, 0, 0), by rw [e1, e2], fun g hg => (by cases hg), Or.inl ⟨rfl, e2, rfl, List.length_eq_zero_iff.1 e2⟩, hbw⟩
  · exact ⟨some ⟨g', 0, none⟩, cap', _, rfl, fun g hg => by cases hg; exact hb, Or.inr ⟨g', rfl, hcp, dr8.start (B := 0) bs hm hby rfl hrf hrg (Nat.le_trans hb0.size hb) hlt (hb0.trans (hbw.mono hb0.size)) hsm⟩, hbw⟩
def Z10 : List Value := [.int .i64 0, .int .i64 0, .int .i64 0, .int .i64 0, .slice none 0 0, .slice none 0 0, .slice none 0 0, .slice none 0 0, .int .i64 0, .int .i64 0]
structure tdE (w : World) (n1 : Nat) (fs : List R3) (n2 : Nat) (bx : List R8) (n3 : Nat) (ff : List R5) (n4 : Nat) (qu : List R8) (g1 k1 g2 k2 : Nat) (h2 : Nat → Hd) (a3 : Option Addr) (k3 : Nat) (h3 : Nat → Hd) (a4 : Option Addr) (k4 : Nat) (h4 : Nat → Hd) (PH : Nat) (W : World) : Prop where
  f1 : dr3 w g1 n1 fs W
  c1 : n1 ≤ k1
  f2 : dr8 w 0 g2 n2 bx h2 0 W
  c2 : n2 ≤ k2
  f3 : dx5 w 0 a3 n3 k3 ff h3 0 W
  f4 : dx8 w 0 a4 n4 k4 qu h4 0 W
  fh : blk W PH Z10 35
  fr : blk W w.heap.size Z10 35
  o1 : g1 < g2
  o2 : ∀ g, a3 = some ⟨g, 0, none⟩ → g2 < g
  o3 : ∀ g, a4 = some ⟨g, 0, none⟩ → g2 < g ∧ ∀ g', a3 = some ⟨g', 0, none⟩ → g' < g
  p1 : PH ≠ g1 ∧ PH ≠ g2 ∧ (∀ g, a3 = some ⟨g, 0, none⟩ → PH ≠ g) ∧ (∀ g, a4 = some ⟨g, 0, none⟩ → PH ≠ g)
  r1 : w.heap.size < g1 ∧ w.heap.size < PH
end Go.Proofs.YtaamahohdnbpiaaGreat
