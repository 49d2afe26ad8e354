import Derived.Test.YtcenoecjihcjjaaDY
namespace Go.Proofs.Ytcenoecjihcjjaa
open Go.RowKit
set_option maxHeartbeats 2000000 in
set_option maxRecDepth 20000 in
/-- laws.FnExactDestuffRuns -/
theorem lawDestuffRuns (f : Int) (a : Option Addr) (n cap : Nat) (l : List Int) (w : World) (h : isInts w a n cap l) (hn : n ≤ 9223372036854775807) :
    Calls Try.prog 3 #[.int .i64 f, .slice a n cap] w fun o w' => o = .returned (.bool true) ∧ Below w.heap.size w w' := by
  by_cases hl : (1048576 : Int) < (n : Int)
  · clear h
    go_enter Try.func3, Try.ntmps3
    go_wp2
    go_ret
    exact ⟨rfl, Below.refl _ _⟩
  · have hl' : decide ((1048576 : Int) < (n : Int)) = false := by simpa using hl
    have hn' : n ≤ 1048576 := by omega
    have HH : Hid (isInts w a n cap l) := h
    clear h hl
    have HT : Hid (∀ W, Below w.heap.size w W → Calls Try.prog 7 #[.slice a n cap] W fun e w' => ∃ g, e = .returned (.slice (some ⟨g, 0, none⟩) n n) ∧ isInts w' (some ⟨g, 0, none⟩) n n l ∧ Below W.heap.size W w') := by
      intro W hW
      refine (toIntS_any W a n cap l (HH.out.below hW) hn').mono ?_
      rintro e w' ⟨g, rfl, h1, h2, _, _⟩
      exact ⟨g, rfl, h1, h2⟩
    have HS : Hid (∀ W g, isInts W (some ⟨g, 0, none⟩) n n l → Calls Try.prog 6 #[.int .i64 f, .slice (some ⟨g, 0, none⟩) n n] W fun o w' => o = .returned (.tuple #[.string (drZ f l).1, .int .i64 (drZ f l).2]) ∧ Below W.heap.size W w') := fun W g hg => specRuns_any W f _ n n l hg hn'
    have HI : Hid (∀ W g, isInts W (some ⟨g, 0, none⟩) n n l → Calls Try.prog 8 #[.int .i64 f, .slice (some ⟨g, 0, none⟩) n n] W fun o w' => o = .returned (.tuple #[.string (drZ f l).1, .int .i64 (drZ f l).2]) ∧ Below W.heap.size W w') := fun W g hg => implRuns_any W f _ n n l hg hn'
    generalize (drZ f l).1 = T at *
    generalize (drZ f l).2 = z at *
    go_enter Try.func3, Try.ntmps3
    go_wp2_with (first | (go_at_call 7; refine (HT.out _ (Below.refl _ _)).mono ?_; rintro o w1 ⟨g1, rfl, y1, b1⟩))
    refine (HS.out w1 g1 y1).mono ?_
    rintro o w2 ⟨rfl, b2⟩
    have B2 : Below w.heap.size w w2 := b1.trans (b2.mono b1.size)
    clear b1 b2 y1
    go_wp2_with fail
    refine (HT.out w2 B2).mono ?_
    rintro o w3 ⟨g3, rfl, y3, b3⟩
    have B3 : Below w.heap.size w w3 := B2.trans (b3.mono B2.size)
    clear b3 B2
    go_wp2_with fail
    refine (HI.out w3 g3 y3).mono ?_
    rintro o w4 ⟨rfl, b4⟩
    have y4 := y3.below b4
    have B4 : Below w.heap.size w w4 := B3.trans (b4.mono B3.size)
    clear b4 B3 y3
    go_wp2_with fail
    refine (HT.out w4 B4).mono ?_
    rintro o w5 ⟨g5, rfl, y5, b5⟩
    have y45 := y4.below b5
    have B5 : Below w.heap.size w w5 := B4.trans (b5.mono B4.size)
    have HY : Hid (isInts w5 (some ⟨g3, 0, none⟩) n n l ∧ isInts w5 (some ⟨g5, 0, none⟩) n n l ∧ Below w.heap.size w w5) := ⟨y45, y5, B5⟩
    clear b5 B4 y4 y5 y45 B5
    go_wp2_with (first | (go_at_call 9; refine (eqIntS_same w5 _ _ n n n n l HY.out.1 HY.out.2.1 hn').mono ?_; rintro o w6 ⟨rfl, q, rfl⟩))
    go_ret
    exact ⟨rfl, below_drewN HY.out.2.2 q⟩
end Go.Proofs.Ytcenoecjihcjjaa
