import Derived.Test.YtcenoecjihcjjaaDX
namespace Go.Proofs.Ytcenoecjihcjjaa
open Go.RowKit
theorem drZ_nil (c : Nat) (hc : c < 2) : drZ (c : Int) [] = (⟨#[]⟩, -1) := by
  unfold drZ
  rw [if_pos ⟨by omega, rfl⟩]
  rfl
theorem dest_nil : destZ ⟨#[]⟩ = (⟨#[]⟩, -1) := by
  have := dest_runs 0 (by decide) [] (by simp) (by simp)
  exact this
set_option maxHeartbeats 4000000 in
set_option maxRecDepth 20000 in
theorem specRuns_nil (w : World) (c : Nat) (hc2 : c < 2) (a : Option Addr) (cap : Nat) :
    Calls Try.prog 6 #[.int .i64 (c : Int), .slice a 0 cap] w fun o w' => o = .returned (.tuple #[.string (drZ (c : Int) []).1, .int .i64 (drZ (c : Int) []).2]) ∧ Below w.heap.size w w' := by
  rw [drZ_nil c hc2]
  have hcc : c = 0 ∨ c = 1 := by omega
  have HV : Hid (∀ (W : World) (v : Value), ownsB W w.heap.size v [] → (convert 40 9 v).run Try.prog W = .ok (.string ⟨#[]⟩) W) := fun W v h => conv_own h (by intro x hx; cases hx)
  have HD : Hid (∀ W : World, Calls Try.prog 19 #[.string ⟨#[]⟩] W fun e w' => e = .returned (.tuple #[.string ⟨#[]⟩, .int .i64 (-1)]) ∧ Below W.heap.size W w') := by
    intro W
    have := specDestuff_any ⟨#[]⟩ W (by simp [ByteArray.size])
    rw [dest_nil] at this
    exact this
  rcases hcc with rfl | rfl
  all_goals
    go_enter Try.func6, Try.ntmps6
    go_wp2
    go_loopw [6, 7] (fun s i wr => i = .int .i64 0 ∧ wr = w) (fun _ _ _ => 0)
    case atStart => exact ⟨rfl, rfl⟩
    case round =>
      obtain ⟨rfl, hw⟩ := hrel
      have hw' : w = wr := hw.symm
      subst hw'
      clear hw
      go_wp2
      go_loopw [8, 9] (fun v i W => i = .int .i64 0 ∧ ownsB W w.heap.size v [] ∧ Below w.heap.size w W ∧ w.heap.size ≤ W.heap.size) (fun _ _ _ => 0)
      case atStart => exact ⟨rfl, own_nil w w.heap.size (Nat.le_refl _), (Below.refl _ _).alloc (Nat.le_refl _) _, by simp⟩
      case round =>
        obtain ⟨rfl, hown, hbel, hz⟩ := hrel
        have hcv := HV.out _ _ hown
        clear hown
        go_wp2_with (first | (go_at_call 19; refine (HD.out _).mono ?_; rintro o w4 ⟨rfl, hb4⟩))
        go_ret2
        exact ⟨rfl, hbel.trans (hb4.mono hz)⟩
set_option maxHeartbeats 1000000 in
theorem specRuns_lev (w : World) (f : Int) (h0 : ¬ f = 0) (h1 : ¬ f = 1) (a : Option Addr) (n cap : Nat) (l : List Int) :
    Calls Try.prog 6 #[.int .i64 f, .slice a n cap] w fun o w' => o = .returned (.tuple #[.string (drZ f l).1, .int .i64 (drZ f l).2]) ∧ Below w.heap.size w w' := by
  rw [drZ_bad (by intro h; omega)]
  have e0 : (f != 0) = true := by simpa using h0
  have e1 : (f != 1) = true := by simpa using h1
  clear h0 h1
  go_enter Try.func6, Try.ntmps6
  go_wp2
  go_ret2
  exact ⟨rfl, Below.refl _ _⟩
set_option maxHeartbeats 1000000 in
theorem specRuns_long (w : World) (c : Nat) (hc2 : c < 2) (a : Option Addr) (n cap : Nat) (l : List Int) (hn : n = l.length) (hn4 : 4000 < n) (hnm : n ≤ 1048576) :
    Calls Try.prog 6 #[.int .i64 (c : Int), .slice a n cap] w fun o w' => o = .returned (.tuple #[.string (drZ (c : Int) l).1, .int .i64 (drZ (c : Int) l).2]) ∧ Below w.heap.size w w' := by
  rw [drZ_bad (by
    rintro ⟨_, h⟩
    have := fit_len l 4000 h
    omega)]
  have hz0 : decide (4000 < (n : Int)) = true := by simp; omega
  have hcc : c = 0 ∨ c = 1 := by omega
  clear hn
  rcases hcc with rfl | rfl
  all_goals
    go_enter Try.func6, Try.ntmps6
    go_wp2
    go_ret2
    exact ⟨rfl, Below.refl _ _⟩
theorem specRuns_any (w : World) (f : Int) (a : Option Addr) (n cap : Nat) (l : List Int) (h : isInts w a n cap l) (hnm : n ≤ 1048576) :
    Calls Try.prog 6 #[.int .i64 f, .slice a n cap] w fun o w' => o = .returned (.tuple #[.string (drZ f l).1, .int .i64 (drZ f l).2]) ∧ Below w.heap.size w w' := by
  by_cases hf : f = 0 ∨ f = 1
  · obtain ⟨c, rfl, hc⟩ : ∃ c : Nat, f = (c : Int) ∧ c < 2 := ⟨f.toNat, by omega, by omega⟩
    by_cases hl : l = []
    · subst hl
      have : n = 0 := h.len
      subst this
      exact specRuns_nil w c hc a cap
    · by_cases hn4 : n ≤ 4000
      · obtain ⟨g, off, rfl, _⟩ := h.cells hl
        exact specRuns_ok w c hc g off n cap l h hl hn4
      · exact specRuns_long w c hc a n cap l h.len (by omega) hnm
  · exact specRuns_lev w f (fun e => hf (.inl e)) (fun e => hf (.inr e)) a n cap l
set_option maxHeartbeats 1000000 in
theorem implRuns_lev (w : World) (f : Int) (hf : ¬ (f = 0 ∨ f = 1)) (a : Option Addr) (n cap : Nat) (l : List Int) :
    Calls Try.prog 8 #[.int .i64 f, .slice a n cap] w fun o w' => o = .returned (.tuple #[.string (drZ f l).1, .int .i64 (drZ f l).2]) ∧ Below w.heap.size w w' := by
  rw [drZ_bad (fun h => hf h.1)]
  have HA : Hid (∀ w, Calls Try.prog 20 #[.int .i64 f] w fun o w' => o = .returned (.bool false) ∧ w = w') := by
    intro w
    have := isLevel_any w f
    rw [show decide (f = 0 ∨ f = 1) = false from decide_eq_false hf] at this
    exact this
  clear hf
  go_enter Try.func8, Try.ntmps8
  go_wp2_with (first | (go_at_call 20; refine (HA.out _).mono ?_; rintro o w1 ⟨rfl, rfl⟩))
  go_ret2
  exact ⟨rfl, Below.refl _ _⟩
set_option maxHeartbeats 1000000 in
theorem implRuns_bad (w : World) (c : Nat) (hc2 : c < 2) (a : Option Addr) (n cap : Nat) (l : List Int) (h : isInts w a n cap l) (hn4 : n ≤ 1048576) (hfit : fitGo l 4000 = false) :
    Calls Try.prog 8 #[.int .i64 (c : Int), .slice a n cap] w fun o w' => o = .returned (.tuple #[.string (drZ (c : Int) l).1, .int .i64 (drZ (c : Int) l).2]) ∧ Below w.heap.size w w' := by
  rw [drZ_bad (by rw [hfit]; simp)]
  have HA : Hid (∀ w, Calls Try.prog 20 #[.int .i64 (c : Int)] w fun o w' => o = .returned (.bool true) ∧ w = w') := by
    intro w
    have := isLevel_any w (c : Int)
    rw [show decide ((c : Int) = 0 ∨ (c : Int) = 1) = true from decide_eq_true (by omega)] at this
    exact this
  have HB : Hid (Calls Try.prog 21 #[.slice a n cap] w fun o w' => o = .returned (.bool false) ∧ ∃ q, w' = w.drewN q) := by
    have := fitLine_any w _ n cap l h hn4
    rw [hfit] at this
    exact this
  clear h hfit
  go_enter Try.func8, Try.ntmps8
  go_wp2_with (first | (go_at_call 20; refine (HA.out _).mono ?_; rintro o w1 ⟨rfl, rfl⟩) | (go_at_call 21; refine HB.out.mono ?_; rintro o w1 ⟨rfl, q, rfl⟩))
  go_ret2
  exact ⟨rfl, below_q w q⟩
set_option maxHeartbeats 2000000 in
theorem implRuns_nil (w : World) (c : Nat) (hc2 : c < 2) (a : Option Addr) (cap : Nat) (h : isInts w a 0 cap []) :
    Calls Try.prog 8 #[.int .i64 (c : Int), .slice a 0 cap] w fun o w' => o = .returned (.tuple #[.string (drZ (c : Int) []).1, .int .i64 (drZ (c : Int) []).2]) ∧ Below w.heap.size w w' := by
  rw [drZ_nil c hc2]
  have HA : Hid (∀ w, Calls Try.prog 20 #[.int .i64 (c : Int)] w fun o w' => o = .returned (.bool true) ∧ w = w') := by
    intro w
    have := isLevel_any w (c : Int)
    rw [show decide ((c : Int) = 0 ∨ (c : Int) = 1) = true from decide_eq_true (by omega)] at this
    exact this
  have HB : Hid (Calls Try.prog 21 #[.slice a 0 cap] w fun o w' => o = .returned (.bool true) ∧ ∃ q, w' = w.drewN q) := fitLine_any w _ 0 cap [] h (by omega)
  clear h
  go_enter Try.func8, Try.ntmps8
  go_wp2_with (first | (go_at_call 20; refine (HA.out _).mono ?_; rintro o w1 ⟨rfl, rfl⟩) | (go_at_call 21; refine HB.out.mono ?_; rintro o w1 ⟨rfl, q, rfl⟩))
  have st0 : dxI w w.heap.size [] ((w.drewN q).alloc (.cells #[.pointer none, .slice none 0 0] 46)) := dxI.new w q
  generalize (w.drewN q).alloc (.cells #[.pointer none, .slice none 0 0] 46) = w2 at *
  go_loopw [7, 8, 9, 24] (fun at_ lv sf i W => i = .int .i64 0 ∧ W = w2) (fun _ _ _ _ _ => 0)
  case atStart => exact ⟨rfl, rfl⟩
  case round =>
    obtain ⟨rfl, hw⟩ := hrel
    have hw' : w2 = wr := hw.symm
    subst hw'
    clear hw
    go_wp2_with (first | (go_at_call 24; refine (fin_any st0).mono ?_; rintro o w5 ⟨rfl, hb5⟩))
    go_ret2
    exact ⟨rfl, hb5⟩
theorem implRuns_any (w : World) (f : Int) (a : Option Addr) (n cap : Nat) (l : List Int) (h : isInts w a n cap l) (hnm : n ≤ 1048576) :
    Calls Try.prog 8 #[.int .i64 f, .slice a n cap] w fun o w' => o = .returned (.tuple #[.string (drZ f l).1, .int .i64 (drZ f l).2]) ∧ Below w.heap.size w w' := by
  by_cases hf : f = 0 ∨ f = 1
  · obtain ⟨c, rfl, hc⟩ : ∃ c : Nat, f = (c : Int) ∧ c < 2 := ⟨f.toNat, by omega, by omega⟩
    by_cases hl : l = []
    · subst hl
      have : n = 0 := h.len
      subst this
      exact implRuns_nil w c hc a cap h
    · cases hfit : fitGo l 4000
      · exact implRuns_bad w c hc a n cap l h hnm hfit
      · obtain ⟨g, off, rfl, _⟩ := h.cells hl
        exact implRuns_ok w c hc g off n cap l h hl hnm hfit (fit_runs hfit)
  · exact implRuns_lev w f hf a n cap l
end Go.Proofs.Ytcenoecjihcjjaa
