import Derived.Test.YtihndnclplkleaaIK
namespace Go.Proofs.Ytihndnclplkleaa
open Go.RowKit
/-- what a call leaves of the two blocks that stand at b -/
theorem keepN {b : Nat} {X w' : World} (hb : Below X.heap.size X w') (hz : b + 2 ≤ X.heap.size) : (∀ o, w'.cell? ⟨b, o, none⟩ = X.cell? ⟨b, o, none⟩) ∧ (∀ o, w'.cell? ⟨b + 1, o, none⟩ = X.cell? ⟨b + 1, o, none⟩) ∧ (∀ o, w'.frozen? ⟨b + 1, o, none⟩ = X.frozen? ⟨b + 1, o, none⟩) :=
  ⟨fun o => hb.cell (p := ⟨b, o, none⟩) (by show b < _; omega), fun o => hb.cell (p := ⟨b + 1, o, none⟩) (by show b + 1 < _; omega), fun o => hb.frozen (p := ⟨b + 1, o, none⟩) (by show b + 1 < _; omega)⟩
set_option maxHeartbeats 4000000 in
set_option maxRecDepth 20000 in
theorem newHost_bad2 (w : World) (a b c d : Int) (g n cap : Nat) (bs : List R3) (h : okCf a b c d = true) (hf : isR3s w (some ⟨g, 0, none⟩) n cap bs) (hn : n ≤ 1048576) (h2 : okFs bs = false) :
    Calls Try.prog 15 #[cfV a b c d, .slice (some ⟨g, 0, none⟩) n cap] w fun o w' => o = .returned (.tuple #[hoV ⟨0, 0, 0, 0, [], [], [], [], 0, 0⟩ ⟨none, 0, 0, none, 0, 0, none, 0, 0, none, 0, 0⟩, .int .i64 2]) ∧ Below w.heap.size w w' := by
  have HE : Hid (∀ W, Calls Try.prog 41 #[cfV a b c d] W fun o w' => o = .returned (.bool true) ∧ Below W.heap.size W w') := fun W => by have := validConfig_any W a b c d; rw [h] at this; exact this
  have HF : Hid (∀ W, Below w.heap.size w W → Calls Try.prog 42 #[.slice (some ⟨g, 0, none⟩) n cap] W fun o w' => o = .returned (.bool false) ∧ Below W.heap.size W w') := fun W hW => by have := validFilters_any W _ n cap bs (hf.below hW) hn; rw [h2] at this; exact this
  clear h hf h2
  go_enter Try.func15, Try.ntmps15
  go_wp2_with (first | (go_at_call 41; refine (HE.out _).mono ?_; rintro o w1 ⟨rfl, hb1⟩; obtain ⟨cq1, cp1, fr1⟩ := keepN (b := w.heap.size) hb1 (by simp); have HB1 : Hid (Below w.heap.size w w1) := (((Below.refl _ _).alloc (Nat.le_refl _) _).alloc (by simp) _).trans (hb1.mono (by simp; try omega)); have HZ1 : Hid (w.heap.size + 2 ≤ w1.heap.size) := (by have := hb1.size; simp at this; exact this); clear hb1) | (go_at_call 42; refine (HF.out _ HB1.out).mono ?_; rintro o w2 ⟨rfl, hb2⟩; obtain ⟨cq2, cp2, fr2⟩ := keepN (b := w.heap.size) hb2 HZ1.out; have HB2 : Hid (Below w.heap.size w w2) := HB1.out.trans (hb2.mono HB1.out.size); clear hb2))
  refine bodyPost_ret (v := .tuple #[hoV ⟨0, 0, 0, 0, [], [], [], [], 0, 0⟩ ⟨none, 0, 0, none, 0, 0, none, 0, 0, none, 0, 0⟩, .int .i64 2]) (by simp [results, Try.results15, go_sem, cp2, cp1]) rfl ?_
  refine ⟨rfl, ?_⟩
  (repeat refine Below.setCell ?_ (by simp; try omega) _)
  exact HB2.out
/-- the clone of the filters, as impl.NewHost calls it -/
theorem cloneN {w : World} {g n cap : Nat} {bs : List R3} (hf : isR3s w (some ⟨g, 0, none⟩) n cap bs) (hn : n ≤ 1048576) (W : World) (hW : Below w.heap.size w W) : Calls Try.prog 43 #[.slice (some ⟨g, 0, none⟩) n cap] W fun e w' => ∃ g1 k1, e = .returned (.slice (some ⟨g1, 0, none⟩) n k1) ∧ (W.heap.size ≤ g1 ∧ g1 < w'.heap.size ∧ n ≤ k1 ∧ rowZ w' g1 (n * 3) ∧ St W.heap.size w' (fun V => isR3s V (some ⟨g1, 0, none⟩) n k1 bs)) ∧ Below W.heap.size W w' := by
  refine (clone_any W g n cap bs (hf.below hW) hn).mono ?_
  rintro o w' ⟨v, rfl, ho, hv, hb⟩
  obtain ⟨g1, k1, rfl, q1, q2, q3, q4, q5⟩ := c3_owns hf.len ho hv
  exact ⟨g1, k1, rfl, ⟨q1, q2, q3, q4, q5⟩, hb⟩
end Go.Proofs.Ytihndnclplkleaa
