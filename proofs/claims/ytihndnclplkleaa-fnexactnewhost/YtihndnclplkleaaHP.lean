import Derived.Test.YtihndnclplkleaaHN
namespace Go.Proofs.Ytihndnclplkleaa
open Go.RowKit
/-- a core's value -/
structure Co where
  p : Int
  ct : Int
  lv : Int
  wk : Bool
  ov : Bool
  ow : Bool
  tx : Bool
  ak : Bool
  rn : Int
  te : Int
  re : Int
  ho : Ho
abbrev coV (C : Co) (s : Sl) : Value := .agg #[.int .i64 C.p, .int .i64 C.ct, .int .i64 C.lv, .bool C.wk, .bool C.ov, .bool C.ow, .bool C.tx, .bool C.ak, .int .i64 C.rn, .int .i64 C.te, .int .i64 C.re, .int .i64 C.ho.c0, .int .i64 C.ho.c1, .int .i64 C.ho.c2, .int .i64 C.ho.c3, .slice s.a1 s.n1 s.k1, .slice s.a2 s.n2 s.k2, .slice s.a3 s.n3 s.k3, .slice s.a4 s.n4 s.k4, .int .i64 C.ho.lo, .int .i64 C.ho.st]
set_option maxHeartbeats 8000000 in
set_option maxRecDepth 40000 in
theorem szCore_any (w : World) (C : Co) (s : Sl) (h : isHo w C.ho s) (hn : C.ho.le 9223372036854775807) :
    Calls Try.prog 21 #[coV C s, .int .i64 1048576] w fun o w' => ∃ z : Int, o = .returned (.int .i64 z) ∧ Below w.heap.size w w' ∧ (z = -1 ∨ ∃ m' : Nat, z = (m' : Int) ∧ C.ho.le 1048576) := by
  have HC : Hid (∀ X, Below w.heap.size w X → Calls Try.prog 56 #[hoV C.ho s, .int .i64 1048576] X fun o w' => ∃ z : Int, o = .returned (.int .i64 z) ∧ Below w.heap.size w w' ∧ (z = -1 ∨ ∃ m' : Nat, z = (m' : Int) ∧ C.ho.le 1048576)) := by
    intro X hX
    refine (szHost_any X C.ho s (h.below hX) hn 1048576 (by omega)).mono ?_
    rintro o w' ⟨z, rfl, h1, h2⟩
    exact ⟨z, rfl, hX.trans (h1.mono hX.size), h2⟩
  clear h hn
  obtain ⟨p, ct, lv, wk, ov, ow, tx, ak, rn, te, re, ⟨c0, c1, c2, c3, fs, bx, ff, qu, lo, st⟩⟩ := C
  obtain ⟨a1, n1, k1, a2, n2, k2, a3, n3, k3, a4, n4, k4⟩ := s
  go_enter Try.func21, Try.ntmps21
  go_wp2_with (first | (go_at_call 56; refine (HC.out _ ((Below.refl _ _).alloc (Nat.le_refl _) _)).mono ?_; rintro o w2 ⟨z, rfl, B2, h2⟩; have HB2 : Hid (Below w.heap.size w w2) := B2; clear B2; rcases h2 with rfl | ⟨m', rfl, hle⟩))
  · go_ret
    exact ⟨_, rfl, HB2.out, .inl rfl⟩
  · go_ret
    exact ⟨_, rfl, HB2.out, .inr ⟨m', rfl, hle⟩⟩
set_option maxHeartbeats 8000000 in
set_option maxRecDepth 40000 in
theorem eqCore_same (w : World) (C : Co) (s s' : Sl) (h : isHo w C.ho s) (h' : isHo w C.ho s') (hn : C.ho.le 1048576) :
    Calls Try.prog 25 #[coV C s, coV C s'] w fun o w' => o = .returned (.bool true) ∧ Below w.heap.size w w' := by
  have HC : Hid (∀ X, Below w.heap.size w X → Calls Try.prog 16 #[hoV C.ho s, hoV C.ho s'] X fun o w' => o = .returned (.bool true) ∧ Below w.heap.size w w') := by
    intro X hX
    refine (eqHost_same X C.ho s s' (h.below hX) (h'.below hX) hn).mono ?_
    rintro o w' ⟨rfl, h1⟩
    exact ⟨rfl, hX.trans (h1.mono hX.size)⟩
  clear h h' hn
  obtain ⟨p, ct, lv, wk, ov, ow, tx, ak, rn, te, re, ⟨c0, c1, c2, c3, fs, bx, ff, qu, lo, st⟩⟩ := C
  obtain ⟨a1, n1, k1, a2, n2, k2, a3, n3, k3, a4, n4, k4⟩ := s
  obtain ⟨b1, m1, l1, b2, m2, l2, b3, m3, l3, b4, m4, l4⟩ := s'
  have hb : ∀ b : Bool, (b != b) = false := by intro b; simp
  have hi : ∀ i : Int, (i != i) = false := by intro i; simp
  go_enter Try.func25, Try.ntmps25
  go_wp2_with (first | (go_at_call 16; refine (HC.out _ (((Below.refl _ _).alloc (Nat.le_refl _) _).alloc (by simp) _)).mono ?_; rintro o w2 ⟨rfl, B2⟩))
  go_ret
  exact ⟨rfl, B2⟩
end Go.Proofs.Ytihndnclplkleaa
