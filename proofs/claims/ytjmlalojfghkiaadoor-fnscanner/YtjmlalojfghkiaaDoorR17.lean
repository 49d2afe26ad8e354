import Derived.Test.YtjmlalojfghkiaaDoorR16
import Derived.Deep.RegionHeld3
namespace Go.Proofs.YtjmlalojfghkiaaDoor.J
open Go.RowKit
set_option linter.unusedSimpArgs false
theorem cell_al (W : World) (o : Obj) (b j : Nat) (v : Value) (hb : b < W.heap.size) (h : W.cell? ⟨b, j, none⟩ = some v) : (W.alloc o).cell? ⟨b, j, none⟩ = some v :=
  (World.cell?_alloc_lt _ _ _ (by exact hb)).trans h
theorem sf_al (w W : World) (o : Obj) (e : Bool) (i : Nat) (r : Bool) (d : Int) (a : Option Addr) (n cap : Nat) (e' : Bool) (i' : Nat) (r' : Bool) (d' : Int) (a' : Option Addr) (n' cap' : Nat)
    (h : W.cell? ⟨w.heap.size, 0, none⟩ = some (.bool e) ∧ W.cell? ⟨w.heap.size, 1, none⟩ = some (.int .u32 (i : Int)) ∧ W.cell? ⟨w.heap.size, 2, none⟩ = some (.bool r) ∧ W.cell? ⟨w.heap.size, 3, none⟩ = some (.int .i64 d) ∧ W.cell? ⟨w.heap.size, 4, none⟩ = some (.slice a n cap) ∧ W.cell? ⟨w.heap.size + 1, 0, none⟩ = some (.bool e') ∧ W.cell? ⟨w.heap.size + 1, 1, none⟩ = some (.int .u32 (i' : Int)) ∧ W.cell? ⟨w.heap.size + 1, 2, none⟩ = some (.bool r') ∧ W.cell? ⟨w.heap.size + 1, 3, none⟩ = some (.int .i64 d') ∧ W.cell? ⟨w.heap.size + 1, 4, none⟩ = some (.slice a' n' cap') ∧ Below w.heap.size w W ∧ w.heap.size + 1 < W.heap.size) : (fun W => W.cell? ⟨w.heap.size, 0, none⟩ = some (.bool e) ∧ W.cell? ⟨w.heap.size, 1, none⟩ = some (.int .u32 (i : Int)) ∧ W.cell? ⟨w.heap.size, 2, none⟩ = some (.bool r) ∧ W.cell? ⟨w.heap.size, 3, none⟩ = some (.int .i64 d) ∧ W.cell? ⟨w.heap.size, 4, none⟩ = some (.slice a n cap) ∧ W.cell? ⟨w.heap.size + 1, 0, none⟩ = some (.bool e') ∧ W.cell? ⟨w.heap.size + 1, 1, none⟩ = some (.int .u32 (i' : Int)) ∧ W.cell? ⟨w.heap.size + 1, 2, none⟩ = some (.bool r') ∧ W.cell? ⟨w.heap.size + 1, 3, none⟩ = some (.int .i64 d') ∧ W.cell? ⟨w.heap.size + 1, 4, none⟩ = some (.slice a' n' cap') ∧ Below w.heap.size w W ∧ w.heap.size + 1 < W.heap.size) (W.alloc o) := by
  obtain ⟨h0, h1, h2, h3, h4, k0, k1, k2, k3, k4, hb, hz⟩ := h
  have z0 : w.heap.size < W.heap.size := by omega
  exact ⟨cell_al _ _ _ _ _ z0 h0, cell_al _ _ _ _ _ z0 h1, cell_al _ _ _ _ _ z0 h2, cell_al _ _ _ _ _ z0 h3, cell_al _ _ _ _ _ z0 h4, cell_al _ _ _ _ _ hz k0, cell_al _ _ _ _ _ hz k1, cell_al _ _ _ _ _ hz k2, cell_al _ _ _ _ _ hz k3, cell_al _ _ _ _ _ hz k4, hb.alloc (by omega) _, by simp; omega⟩
theorem sf_0 (w : World) (e : Bool) (i : Nat) (r : Bool) (d : Int) (a : Option Addr) (n cap : Nat) (e' : Bool) (i' : Nat) (r' : Bool) (d' : Int) (a' : Option Addr) (n' cap' : Nat) :
    (fun W => W.cell? ⟨w.heap.size, 0, none⟩ = some (.bool e) ∧ W.cell? ⟨w.heap.size, 1, none⟩ = some (.int .u32 (i : Int)) ∧ W.cell? ⟨w.heap.size, 2, none⟩ = some (.bool r) ∧ W.cell? ⟨w.heap.size, 3, none⟩ = some (.int .i64 d) ∧ W.cell? ⟨w.heap.size, 4, none⟩ = some (.slice a n cap) ∧ W.cell? ⟨w.heap.size + 1, 0, none⟩ = some (.bool e') ∧ W.cell? ⟨w.heap.size + 1, 1, none⟩ = some (.int .u32 (i' : Int)) ∧ W.cell? ⟨w.heap.size + 1, 2, none⟩ = some (.bool r') ∧ W.cell? ⟨w.heap.size + 1, 3, none⟩ = some (.int .i64 d') ∧ W.cell? ⟨w.heap.size + 1, 4, none⟩ = some (.slice a' n' cap') ∧ Below w.heap.size w W ∧ w.heap.size + 1 < W.heap.size) ((w.alloc (frC e i r d a n cap 29)).alloc (frC e' i' r' d' a' n' cap' 29)).drew := by
  refine ⟨?_, ?_, ?_, ?_, ?_, ?_, ?_, ?_, ?_, ?_, (((Below.refl _ _).alloc (Nat.le_refl _) _).alloc (by simp) _).drew, by simp⟩ <;> go_simp
theorem below_of {w W : World} {e : Bool} {i : Nat} {r : Bool} {d : Int} {a : Option Addr} {n cap : Nat} {e' : Bool} {i' : Nat} {r' : Bool} {d' : Int} {a' : Option Addr} {n' cap' : Nat}
    (h : W.cell? ⟨w.heap.size, 0, none⟩ = some (.bool e) ∧ W.cell? ⟨w.heap.size, 1, none⟩ = some (.int .u32 (i : Int)) ∧ W.cell? ⟨w.heap.size, 2, none⟩ = some (.bool r) ∧ W.cell? ⟨w.heap.size, 3, none⟩ = some (.int .i64 d) ∧ W.cell? ⟨w.heap.size, 4, none⟩ = some (.slice a n cap) ∧ W.cell? ⟨w.heap.size + 1, 0, none⟩ = some (.bool e') ∧ W.cell? ⟨w.heap.size + 1, 1, none⟩ = some (.int .u32 (i' : Int)) ∧ W.cell? ⟨w.heap.size + 1, 2, none⟩ = some (.bool r') ∧ W.cell? ⟨w.heap.size + 1, 3, none⟩ = some (.int .i64 d') ∧ W.cell? ⟨w.heap.size + 1, 4, none⟩ = some (.slice a' n' cap') ∧ Below w.heap.size w W ∧ w.heap.size + 1 < W.heap.size) : Below w.heap.size w W := h.2.2.2.2.2.2.2.2.2.2.1
theorem valid_eq (e : Bool) (i : Nat) (r : Bool) (d : Int) (n : Nat) (i' : Nat) (d' : Int) (k : Nat) (l l' : List Nat)
    (hi' : (if (536870911 : Int) < (i : Int) then (536870911 : Int) else (i : Int)) = (i' : Int)) (hd' : (if (15 : Int) < (if d < 0 then 0 else d) then (15 : Int) else (if d < 0 then 0 else d)) = d') (hk : dl (r && ((n : Int) == 0)) d' = (k : Int))
    (h1 : n = k → l' = l) (h2 : n ≠ k → l' ≠ l) :
    ((e == (e || decide ((2047 : Int) < (i : Int)))) && (r == (r && ((n : Int) == 0))) && ((i : Int) == (i' : Int)) && (d == d') && decide (l = l')) = validB e i r d n := by
  have hl : decide (l = l') = decide (n = k) := by
    by_cases h : n = k
    · rw [h1 h]; simp [h]
    · have := h2 h
      simp only [h, decide_false, decide_eq_false_iff_not]
      exact fun e => this e.symm
  rw [hl]
  unfold validB
  rw [Bool.eq_iff_iff]
  simp only [Bool.and_eq_true, beq_iff_eq, decide_eq_true_iff]
  by_cases hd : 0 ≤ d ∧ d ≤ 15
  · have hdd : d' = d := by
      rw [← hd']
      have a1 : ¬ d < 0 := by omega
      have a2 : ¬ (15 : Int) < d := by omega
      simp [a1, a2]
    rw [hdd] at hk
    rw [hdd]
    by_cases hi : (536870911 : Int) < (i : Int)
    · rw [if_pos hi] at hi'
      constructor
      · rintro ⟨⟨⟨⟨_, _⟩, h3⟩, _⟩, _⟩
        omega
      · rintro ⟨⟨⟨h3, _⟩, _⟩, _⟩
        exfalso
        cases e
        · simp at h3; omega
        · simp at h3; omega
    · rw [if_neg hi] at hi'
      cases e
      · cases r
        · have hkk : dl false d = (k : Int) := hk
          simp
          rw [hkk]
          omega
        · have hkk : dl ((n : Int) == 0) d = (k : Int) := by simpa using hk
          by_cases hn : n = 0
          · subst hn
            have hz : dl true d = 0 := by simp [dl]
            have hk0 : dl true d = (k : Int) := by simpa using hkk
            simp [hz]
            omega
          · have hz : dl true d = 0 := by simp [dl]
            simp [hz, hn]
      · cases r
        · have hkk : dl false d = (k : Int) := hk
          simp
          rw [hkk]
          omega
        · have hkk : dl ((n : Int) == 0) d = (k : Int) := by simpa using hk
          by_cases hn : n = 0
          · subst hn
            have hz : dl true d = 0 := by simp [dl]
            have hk0 : dl true d = (k : Int) := by simpa using hkk
            simp [hz]
            omega
          · have hz : dl true d = 0 := by simp [dl]
            simp [hz, hn]
  · constructor
    · rintro ⟨⟨_, h4⟩, _⟩
      exfalso
      rw [← hd'] at h4
      split at h4
      · omega
      · split at h4 <;> omega
    · rintro ⟨⟨⟨_, h4⟩, h5⟩, _⟩
      exact absurd ⟨h4, h5⟩ hd
theorem vf_be (w W W' : World) (e : Bool) (i : Nat) (r : Bool) (d : Int) (a : Option Addr) (n cap : Nat) (h : W.cell? ⟨w.heap.size, 0, none⟩ = some (.bool e) ∧ W.cell? ⟨w.heap.size, 1, none⟩ = some (.int .u32 (i : Int)) ∧ W.cell? ⟨w.heap.size, 2, none⟩ = some (.bool r) ∧ W.cell? ⟨w.heap.size, 3, none⟩ = some (.int .i64 d) ∧ W.cell? ⟨w.heap.size, 4, none⟩ = some (.slice a n cap) ∧ Below w.heap.size w W ∧ w.heap.size < W.heap.size) (hb : Below W.heap.size W W') : (fun W => W.cell? ⟨w.heap.size, 0, none⟩ = some (.bool e) ∧ W.cell? ⟨w.heap.size, 1, none⟩ = some (.int .u32 (i : Int)) ∧ W.cell? ⟨w.heap.size, 2, none⟩ = some (.bool r) ∧ W.cell? ⟨w.heap.size, 3, none⟩ = some (.int .i64 d) ∧ W.cell? ⟨w.heap.size, 4, none⟩ = some (.slice a n cap) ∧ Below w.heap.size w W ∧ w.heap.size < W.heap.size) W' := by
  obtain ⟨h0, h1, h2, h3, h4, hbl, hz⟩ := h
  exact ⟨(hb.cell (by exact hz)).trans h0, (hb.cell (by exact hz)).trans h1, (hb.cell (by exact hz)).trans h2, (hb.cell (by exact hz)).trans h3, (hb.cell (by exact hz)).trans h4, hbl.trans (hb.mono (by omega)), Nat.lt_of_lt_of_le hz hb.size⟩
theorem vf_0 (w : World) (e : Bool) (i : Nat) (r : Bool) (d : Int) (a : Option Addr) (n cap : Nat) : (fun W => W.cell? ⟨w.heap.size, 0, none⟩ = some (.bool e) ∧ W.cell? ⟨w.heap.size, 1, none⟩ = some (.int .u32 (i : Int)) ∧ W.cell? ⟨w.heap.size, 2, none⟩ = some (.bool r) ∧ W.cell? ⟨w.heap.size, 3, none⟩ = some (.int .i64 d) ∧ W.cell? ⟨w.heap.size, 4, none⟩ = some (.slice a n cap) ∧ Below w.heap.size w W ∧ w.heap.size < W.heap.size) (w.alloc (frC e i r d a n cap 29)).drew := by
  refine ⟨?_, ?_, ?_, ?_, ?_, ((Below.refl _ _).alloc (Nat.le_refl _) _).drew, by simp⟩ <;> go_simp
theorem vf_below {w W : World} {e : Bool} {i : Nat} {r : Bool} {d : Int} {a : Option Addr} {n cap : Nat} (h : W.cell? ⟨w.heap.size, 0, none⟩ = some (.bool e) ∧ W.cell? ⟨w.heap.size, 1, none⟩ = some (.int .u32 (i : Int)) ∧ W.cell? ⟨w.heap.size, 2, none⟩ = some (.bool r) ∧ W.cell? ⟨w.heap.size, 3, none⟩ = some (.int .i64 d) ∧ W.cell? ⟨w.heap.size, 4, none⟩ = some (.slice a n cap) ∧ Below w.heap.size w W ∧ w.heap.size < W.heap.size) : Below w.heap.size w W := h.2.2.2.2.2.1
theorem vf_size {w W : World} {e : Bool} {i : Nat} {r : Bool} {d : Int} {a : Option Addr} {n cap : Nat} (h : W.cell? ⟨w.heap.size, 0, none⟩ = some (.bool e) ∧ W.cell? ⟨w.heap.size, 1, none⟩ = some (.int .u32 (i : Int)) ∧ W.cell? ⟨w.heap.size, 2, none⟩ = some (.bool r) ∧ W.cell? ⟨w.heap.size, 3, none⟩ = some (.int .i64 d) ∧ W.cell? ⟨w.heap.size, 4, none⟩ = some (.slice a n cap) ∧ Below w.heap.size w W ∧ w.heap.size < W.heap.size) : w.heap.size < W.heap.size := h.2.2.2.2.2.2
theorem szByteS_any (w : World) (a : Option Addr) (n cap : Nat) (m : Nat) (hn : n ≤ 9223372036854775807) (hm : m ≤ 1048576) :
    Calls Tryd.prog 46 #[.slice a n cap, .int .i64 m] w fun o w' => o = .returned (.int .i64 (if (n : Int) ≤ (m : Int) then (m : Int) - (n : Int) else -1)) ∧ w = w' := by
  by_cases h : (n : Int) ≤ (m : Int)
  · rw [if_pos h]
    go_enter Tryd.func46, Tryd.ntmps46
    go_wp2
    go_ret
    exact ⟨rfl, rfl⟩
  · rw [if_neg h]
    go_enter Tryd.func46, Tryd.ntmps46
    go_wp2
    go_ret
    exact ⟨rfl, rfl⟩
theorem szFrame_any (w : World) (e : Bool) (i : Nat) (r : Bool) (d : Int) (a : Option Addr) (n cap : Nat) (m : Nat) (hn : n ≤ 9223372036854775807) (hm : m ≤ 1048576) :
    Calls Tryd.prog 18 #[frV e i r d a n cap, .int .i64 m] w fun o w' => o = .returned (.int .i64 (if (n : Int) ≤ (m : Int) then (m : Int) - (n : Int) else -1)) ∧ w.alloc (frC e i r d a n cap 25) = w' := by
  by_cases h : (n : Int) ≤ (m : Int)
  · have HC : Hid (∀ W, Calls Tryd.prog 46 #[.slice a n cap, .int .i64 m] W fun o w' => o = .returned (.int .i64 ((m : Int) - (n : Int))) ∧ W = w') := by
      intro W; have := szByteS_any W a n cap m hn hm; rw [if_pos h] at this; exact this
    rw [if_pos h]
    go_enter Tryd.func18, Tryd.ntmps18
    go_wp2_with (first | (go_at_call 46; refine (HC.out _).mono ?_; rintro o w1 ⟨rfl, rfl⟩))
    go_ret
    exact ⟨rfl, rfl⟩
  · have HC : Hid (∀ W, Calls Tryd.prog 46 #[.slice a n cap, .int .i64 m] W fun o w' => o = .returned (.int .i64 (-1)) ∧ W = w') := by
      intro W; have := szByteS_any W a n cap m hn hm; rw [if_neg h] at this; exact this
    rw [if_neg h]
    go_enter Tryd.func18, Tryd.ntmps18
    go_wp2_with (first | (go_at_call 46; refine (HC.out _).mono ?_; rintro o w1 ⟨rfl, rfl⟩))
    go_ret
    exact ⟨rfl, rfl⟩
theorem bcell {W w1 : World} (hb : Below W.heap.size W w1) : (∀ b o, b < W.heap.size → w1.cell? ⟨b, o, none⟩ = W.cell? ⟨b, o, none⟩) ∧ (∀ b o, b < W.heap.size → w1.frozen? ⟨b, o, none⟩ = W.frozen? ⟨b, o, none⟩) :=
  ⟨fun b o h => hb.cell (p := ⟨b, o, none⟩) h, fun b o h => hb.frozen (p := ⟨b, o, none⟩) h⟩
theorem isBytes.setOther {w : World} {g n cap : Nat} {l : List Nat} (h : isBytes w (some ⟨g, 0, none⟩) n cap l) (b j : Nat) (v : Value) (hb : b ≠ g) : isBytes (w.setCell ⟨b, j, none⟩ v) (some ⟨g, 0, none⟩) n cap l := by
  refine ⟨h.len, h.cap, h.small, fun hl => ?_⟩
  obtain ⟨g', off, ha, hc⟩ := h.cells hl
  refine ⟨g', off, ha, fun t ht => ?_⟩
  cases ha
  rw [World.cell?_setCell_other _ _ _ _ (by intro hh; exact hb (congrArg Addr.block hh))]
  exact hc t ht
set_option maxHeartbeats 1000000 in
set_option maxRecDepth 20000 in
theorem toFrame_any (w : World) (e : Bool) (i : Nat) (r : Bool) (d : Int) (a : Option Addr) (n cap : Nat) (l : List Nat) (h : isBytes w a n cap l) (hn : n ≤ 1048576) :
    Calls Tryd.prog 26 #[frV e i r d a n cap] w fun o w' => ∃ g, o = .returned (frV e i r d (some ⟨g, 0, none⟩) n n) ∧ isBytes w' (some ⟨g, 0, none⟩) n n l ∧ Below w.heap.size w w' := by
  have HH : Hid (isBytes w a n cap l) := h
  clear h
  go_enter Tryd.func26, Tryd.ntmps26
  go_wp2_with (first | (go_at_call 48; refine (toByteS_any _ a n cap l (HH.out.below ?_) hn).mono ?_))
  · exact (((Below.refl _ _).alloc (Nat.le_refl _) _).alloc (by simp) _).alloc (by simp; omega) _
  · rintro o w1 ⟨g, rfl, hby, hb, hg, _⟩
    obtain ⟨hc, hf⟩ := bcell hb
    have hB : Below w.heap.size w w1 := ((((Below.refl w.heap.size w).alloc (Nat.le_refl _) _).alloc (by simp) _).alloc (by simp; omega) _).trans (hb.mono (by simp; omega))
    have HG : Hid (w.heap.size + 1 + 1 + 1 ≤ g) := by unfold Hid; simpa using hg
    have HY : Hid (isBytes w1 (some ⟨g, 0, none⟩) n n l) := hby
    clear hb hg hby
    go_wp2
    refine bodyPost_ret (v := frV e i r d (some ⟨g, 0, none⟩) n n) (by simp [results, Tryd.results26, go_sem, hc]) rfl ?_
    have hg' := HG.out
    refine ⟨g, rfl, ?_, ?_⟩
    · exact (((((HY.out.setOther _ 4 _ (by omega)).setOther _ 0 _ (by omega)).setOther _ 1 _ (by omega)).setOther _ 2 _ (by omega)).setOther _ 3 _ (by omega)).setOther _ 4 _ (by omega)
    · exact (((((hB.setCell (p := ⟨_, 4, none⟩) (by simp; omega) _).setCell (p := ⟨_, 0, none⟩) (by simp) _).setCell (p := ⟨_, 1, none⟩) (by simp) _).setCell (p := ⟨_, 2, none⟩) (by simp) _).setCell (p := ⟨_, 3, none⟩) (by simp) _).setCell (p := ⟨_, 4, none⟩) (by simp) _
set_option maxHeartbeats 1000000 in
theorem eqByteS_same (w : World) (a1 a2 : Option Addr) (n1 c1 n2 c2 : Nat) (l : List Nat) (h1 : isBytes w a1 n1 c1 l) (h2 : isBytes w a2 n2 c2 l) (hn : n1 ≤ 1048576) :
    Calls Tryd.prog 56 #[.slice a1 n1 c1, .slice a2 n2 c2] w fun o w' => o = .returned (.bool true) ∧ ∃ q, w' = w.drewN q := by
  have e1 := h1.len
  have e2 := h2.len
  by_cases hl : l = []
  · subst hl
    have e1' : n1 = 0 := e1
    have e2' : n2 = 0 := e2
    subst e1' e2'
    clear e1 e2 h1 h2
    go_enter Tryd.func56, Tryd.ntmps56
    go_wp2
    go_loopw [5] (fun i wr => i = .int .i64 0 ∧ wr = w) (fun _ _ => 0)
    case atStart => exact ⟨rfl, rfl⟩
    case round =>
      obtain ⟨rfl, rfl⟩ := hrel
      go_wp2
      go_ret
      exact ⟨rfl, 0, rfl⟩
  · obtain ⟨g1, o1, rfl, k1⟩ := h1.cells hl
    obtain ⟨g2, o2, rfl, k2⟩ := h2.cells hl
    have hnn : n2 = n1 := by omega
    subst hnn
    have hn1 : n2 ≤ l.length := by omega
    clear e1 e2 h1 h2
    go_enter Tryd.func56, Tryd.ntmps56
    go_wp2
    go_loopw [5] (fun i wr => ∃ k : Nat, k ≤ n2 ∧ i = .int .i64 k ∧ ∃ q, wr = w.drewN q) (fun i _ => n2 - (intOf i).toNat)
    case atStart => exact ⟨0, Nat.zero_le _, rfl, 0, rfl⟩
    case round =>
      obtain ⟨k, hk, rfl, q, rfl⟩ := hrel
      by_cases hlt : k < n2
      · have c1 := k1 k (by omega)
        have c2 := k2 k (by omega)
        generalize l[k] = x at *
        go_wp2
        go_quiet (fail)
        go_wp2
        go_roundw
        case rel => exact ⟨k + 1, by omega, by go_num, _, rfl⟩
        case measure => simp [intOf]; omega
      · go_wp2
        go_ret
        exact ⟨rfl, _, rfl⟩
theorem below_q {B : Nat} (w : World) (q : Nat) : Below B w (w.drewN q) := below_drewN (Below.refl _ _) q
set_option maxHeartbeats 1000000 in
set_option maxRecDepth 20000 in
theorem eqFrame_same (w : World) (e : Bool) (i : Nat) (r : Bool) (d : Int) (a : Option Addr) (n cap : Nat) (l : List Nat) (h : isBytes w a n cap l) (a' : Option Addr) (n' cap' : Nat) (h' : isBytes w a' n' cap' l) (hn : n ≤ 1048576) :
    Calls Tryd.prog 32 #[frV e i r d a n cap, frV e i r d a' n' cap'] w fun o w' => o = .returned (.bool true) ∧ Below w.heap.size w w' := by
  have HH : Hid (isBytes w a n cap l) := h
  have HH' : Hid (isBytes w a' n' cap' l) := h'
  clear h h'
  have hE : (e != e) = false := by simp
  have hR : (r != r) = false := by simp
  have hD : (d != d) = false := by simp
  have hI : ((i : Int) != (i : Int)) = false := by simp
  have hbl : Below w.heap.size w ((w.alloc (frC e i r d a n cap 29)).alloc (frC e i r d a' n' cap' 29)) := ((Below.refl _ _).alloc (Nat.le_refl _) _).alloc (by simp) _
  have HB : Hid (Below w.heap.size w ((w.alloc (frC e i r d a n cap 29)).alloc (frC e i r d a' n' cap' 29))) := hbl
  clear hbl
  go_enter Tryd.func32, Tryd.ntmps32
  go_wp2_with (first | (go_at_call 56; refine (eqByteS_same _ _ _ _ _ _ _ l (HH.out.below HB.out) (HH'.out.below HB.out) hn).mono ?_; rintro o w1 ⟨rfl, q, rfl⟩))
  go_ret
  exact ⟨rfl, below_drewN HB.out q⟩
theorem box5 {W w1 : World} {b : Nat} {e : Bool} {i : Nat} {r : Bool} {d : Int} {v : Value} (hb : Below W.heap.size W w1) (hz : b < W.heap.size)
    (h : W.cell? ⟨b, 0, none⟩ = some (.bool e) ∧ W.cell? ⟨b, 1, none⟩ = some (.int .u32 (i : Int)) ∧ W.cell? ⟨b, 2, none⟩ = some (.bool r) ∧ W.cell? ⟨b, 3, none⟩ = some (.int .i64 d) ∧ W.cell? ⟨b, 4, none⟩ = some (v)) : w1.cell? ⟨b, 0, none⟩ = some (.bool e) ∧ w1.cell? ⟨b, 1, none⟩ = some (.int .u32 (i : Int)) ∧ w1.cell? ⟨b, 2, none⟩ = some (.bool r) ∧ w1.cell? ⟨b, 3, none⟩ = some (.int .i64 d) ∧ w1.cell? ⟨b, 4, none⟩ = some (v) := by
  obtain ⟨h0, h1, h2, h3, h4⟩ := h
  exact ⟨(hb.cell (by exact hz)).trans h0, (hb.cell (by exact hz)).trans h1, (hb.cell (by exact hz)).trans h2, (hb.cell (by exact hz)).trans h3, (hb.cell (by exact hz)).trans h4⟩
theorem lf_be (W W' : World) (b1 b2 g : Nat) (e : Bool) (i : Nat) (r : Bool) (d : Int) (a : Option Addr) (n cap : Nat) (l : List Nat) (h : W.cell? ⟨b1, 0, none⟩ = some (.bool e) ∧ W.cell? ⟨b1, 1, none⟩ = some (.int .u32 (i : Int)) ∧ W.cell? ⟨b1, 2, none⟩ = some (.bool r) ∧ W.cell? ⟨b1, 3, none⟩ = some (.int .i64 d) ∧ W.cell? ⟨b1, 4, none⟩ = some (.slice a n cap) ∧ W.cell? ⟨b2, 0, none⟩ = some (.bool e) ∧ W.cell? ⟨b2, 1, none⟩ = some (.int .u32 (i : Int)) ∧ W.cell? ⟨b2, 2, none⟩ = some (.bool r) ∧ W.cell? ⟨b2, 3, none⟩ = some (.int .i64 d) ∧ W.cell? ⟨b2, 4, none⟩ = some (.slice (some ⟨g, 0, none⟩) n n) ∧ isBytes W a n cap l ∧ isBytes W (some ⟨g, 0, none⟩) n n l ∧ b1 < W.heap.size ∧ b2 < W.heap.size) (hb : Below W.heap.size W W') : (fun W => W.cell? ⟨b1, 0, none⟩ = some (.bool e) ∧ W.cell? ⟨b1, 1, none⟩ = some (.int .u32 (i : Int)) ∧ W.cell? ⟨b1, 2, none⟩ = some (.bool r) ∧ W.cell? ⟨b1, 3, none⟩ = some (.int .i64 d) ∧ W.cell? ⟨b1, 4, none⟩ = some (.slice a n cap) ∧ W.cell? ⟨b2, 0, none⟩ = some (.bool e) ∧ W.cell? ⟨b2, 1, none⟩ = some (.int .u32 (i : Int)) ∧ W.cell? ⟨b2, 2, none⟩ = some (.bool r) ∧ W.cell? ⟨b2, 3, none⟩ = some (.int .i64 d) ∧ W.cell? ⟨b2, 4, none⟩ = some (.slice (some ⟨g, 0, none⟩) n n) ∧ isBytes W a n cap l ∧ isBytes W (some ⟨g, 0, none⟩) n n l ∧ b1 < W.heap.size ∧ b2 < W.heap.size) W' := by
  obtain ⟨h0, h1, h2, h3, h4, k0, k1, k2, k3, k4, y1, y2, z1, z2⟩ := h
  exact ⟨(hb.cell (by exact z1)).trans h0, (hb.cell (by exact z1)).trans h1, (hb.cell (by exact z1)).trans h2, (hb.cell (by exact z1)).trans h3, (hb.cell (by exact z1)).trans h4, (hb.cell (by exact z2)).trans k0, (hb.cell (by exact z2)).trans k1, (hb.cell (by exact z2)).trans k2, (hb.cell (by exact z2)).trans k3, (hb.cell (by exact z2)).trans k4, y1.below hb, y2.below hb, Nat.lt_of_lt_of_le z1 hb.size, Nat.lt_of_lt_of_le z2 hb.size⟩
theorem lf_drew (W : World) (b1 b2 g : Nat) (e : Bool) (i : Nat) (r : Bool) (d : Int) (a : Option Addr) (n cap : Nat) (l : List Nat) (h : W.cell? ⟨b1, 0, none⟩ = some (.bool e) ∧ W.cell? ⟨b1, 1, none⟩ = some (.int .u32 (i : Int)) ∧ W.cell? ⟨b1, 2, none⟩ = some (.bool r) ∧ W.cell? ⟨b1, 3, none⟩ = some (.int .i64 d) ∧ W.cell? ⟨b1, 4, none⟩ = some (.slice a n cap) ∧ W.cell? ⟨b2, 0, none⟩ = some (.bool e) ∧ W.cell? ⟨b2, 1, none⟩ = some (.int .u32 (i : Int)) ∧ W.cell? ⟨b2, 2, none⟩ = some (.bool r) ∧ W.cell? ⟨b2, 3, none⟩ = some (.int .i64 d) ∧ W.cell? ⟨b2, 4, none⟩ = some (.slice (some ⟨g, 0, none⟩) n n) ∧ isBytes W a n cap l ∧ isBytes W (some ⟨g, 0, none⟩) n n l ∧ b1 < W.heap.size ∧ b2 < W.heap.size) : (fun W => W.cell? ⟨b1, 0, none⟩ = some (.bool e) ∧ W.cell? ⟨b1, 1, none⟩ = some (.int .u32 (i : Int)) ∧ W.cell? ⟨b1, 2, none⟩ = some (.bool r) ∧ W.cell? ⟨b1, 3, none⟩ = some (.int .i64 d) ∧ W.cell? ⟨b1, 4, none⟩ = some (.slice a n cap) ∧ W.cell? ⟨b2, 0, none⟩ = some (.bool e) ∧ W.cell? ⟨b2, 1, none⟩ = some (.int .u32 (i : Int)) ∧ W.cell? ⟨b2, 2, none⟩ = some (.bool r) ∧ W.cell? ⟨b2, 3, none⟩ = some (.int .i64 d) ∧ W.cell? ⟨b2, 4, none⟩ = some (.slice (some ⟨g, 0, none⟩) n n) ∧ isBytes W a n cap l ∧ isBytes W (some ⟨g, 0, none⟩) n n l ∧ b1 < W.heap.size ∧ b2 < W.heap.size) W.drew :=
  lf_be W W.drew b1 b2 g e i r d a n cap l h (Below.refl _ _).drew
theorem isBytes.drew {W : World} {a : Option Addr} {n cap : Nat} {l : List Nat} (h : isBytes W a n cap l) : isBytes W.drew a n cap l := h.below (Below.refl _ _).drew
theorem lf_y1 {W : World} {b1 b2 g : Nat} {e : Bool} {i : Nat} {r : Bool} {d : Int} {a : Option Addr} {n cap : Nat} {l : List Nat} (h : W.cell? ⟨b1, 0, none⟩ = some (.bool e) ∧ W.cell? ⟨b1, 1, none⟩ = some (.int .u32 (i : Int)) ∧ W.cell? ⟨b1, 2, none⟩ = some (.bool r) ∧ W.cell? ⟨b1, 3, none⟩ = some (.int .i64 d) ∧ W.cell? ⟨b1, 4, none⟩ = some (.slice a n cap) ∧ W.cell? ⟨b2, 0, none⟩ = some (.bool e) ∧ W.cell? ⟨b2, 1, none⟩ = some (.int .u32 (i : Int)) ∧ W.cell? ⟨b2, 2, none⟩ = some (.bool r) ∧ W.cell? ⟨b2, 3, none⟩ = some (.int .i64 d) ∧ W.cell? ⟨b2, 4, none⟩ = some (.slice (some ⟨g, 0, none⟩) n n) ∧ isBytes W a n cap l ∧ isBytes W (some ⟨g, 0, none⟩) n n l ∧ b1 < W.heap.size ∧ b2 < W.heap.size) : isBytes W a n cap l := h.2.2.2.2.2.2.2.2.2.2.1
theorem lf_y2 {W : World} {b1 b2 g : Nat} {e : Bool} {i : Nat} {r : Bool} {d : Int} {a : Option Addr} {n cap : Nat} {l : List Nat} (h : W.cell? ⟨b1, 0, none⟩ = some (.bool e) ∧ W.cell? ⟨b1, 1, none⟩ = some (.int .u32 (i : Int)) ∧ W.cell? ⟨b1, 2, none⟩ = some (.bool r) ∧ W.cell? ⟨b1, 3, none⟩ = some (.int .i64 d) ∧ W.cell? ⟨b1, 4, none⟩ = some (.slice a n cap) ∧ W.cell? ⟨b2, 0, none⟩ = some (.bool e) ∧ W.cell? ⟨b2, 1, none⟩ = some (.int .u32 (i : Int)) ∧ W.cell? ⟨b2, 2, none⟩ = some (.bool r) ∧ W.cell? ⟨b2, 3, none⟩ = some (.int .i64 d) ∧ W.cell? ⟨b2, 4, none⟩ = some (.slice (some ⟨g, 0, none⟩) n n) ∧ isBytes W a n cap l ∧ isBytes W (some ⟨g, 0, none⟩) n n l ∧ b1 < W.heap.size ∧ b2 < W.heap.size) : isBytes W (some ⟨g, 0, none⟩) n n l := h.2.2.2.2.2.2.2.2.2.2.2.1
namespace M
/-- the number v as n letters, the highest first -/
def num (v : Nat) : Nat → List Nat
  | 0 => []
  | n + 1 => num (v / 2) n ++ [48 + v % 2]
theorem num_length (n v : Nat) : (num v n).length = n := by
  induction n generalizing v with
  | zero => rfl
  | succ n ih => simp [num, ih]
theorem num_isL (n v : Nat) : ∀ x ∈ num v n, isL x := by
  induction n generalizing v with
  | zero => intro x hx; cases hx
  | succ n ih =>
    intro x hx
    simp only [num, List.mem_append, List.mem_singleton] at hx
    rcases hx with hx | rfl
    · exact ih _ x hx
    · unfold isL; omega
theorem num_split (b v : Nat) : ∀ a, num v (a + b) = num (v / 2 ^ b) a ++ num v b := by
  induction b generalizing v with
  | zero => intro a; simp [num]
  | succ b ih =>
    intro a
    have e1 : a + (b + 1) = (a + b) + 1 := by omega
    have e2 : v / 2 ^ (b + 1) = v / 2 / 2 ^ b := by rw [Nat.pow_succ, Nat.mul_comm, Nat.div_div_eq_div_mul]
    rw [e1, num, ih, num, e2, List.append_assoc]
end M
theorem strN_append (l m : List Nat) : strN l ++ strN m = strN (l ++ m) := by
  unfold strN
  apply ByteArray.ext
  simp
theorem strN_size (l : List Nat) : (strN l).size = l.length := by
  unfold strN; simp [ByteArray.size]
set_option maxHeartbeats 400000 in
theorem num_any (n : Nat) : ∀ (v : Nat) (w : World), n ≤ 64 → v < 4611686018427387904 →
    Calls Tryd.prog 64 #[.int .i64 v, .int .i64 n] w fun o w' => o = .returned (.string (strN (M.num v n))) ∧ w = w' := by
  induction n with
  | zero =>
    intro v w _ hv
    go_enter Tryd.func64, Tryd.ntmps64
    go_wp2
    go_ret
    exact ⟨rfl, rfl⟩
  | succ n ih =>
    intro v w hn hv
    have IH : Hid (∀ (v : Nat) (w : World), n ≤ 64 → v < 4611686018427387904 → Calls Tryd.prog 64 #[.int .i64 v, .int .i64 n] w fun o w' => o = .returned (.string (strN (M.num v n))) ∧ w = w') := ih
    clear ih
    have hl : (strN (M.num (v / 2) n)).size ≤ 64 := by rw [strN_size, M.num_length]; omega
    by_cases hb : v % 2 = 1
    · have hb' : (((v : Int) % 2) == 1) = true := by simp; omega
      have HE : Hid (strN (M.num v (n + 1)) = strN (M.num (v / 2) n) ++ strN [49]) := by rw [strN_append, M.num, hb]; exact rfl
      clear hb
      go_enter Tryd.func64, Tryd.ntmps64
      go_wp2_with fail
      refine (IH.out (v / 2) _ (by omega) (by omega)).mono ?_
      rintro o w1 ⟨rfl, rfl⟩
      go_wp2
      go_ret
      exact ⟨ret_str HE.out.symm, rfl⟩
    · have hb' : (((v : Int) % 2) == 1) = false := by simp; omega
      have hb0 : v % 2 = 0 := by omega
      have HE : Hid (strN (M.num v (n + 1)) = strN (M.num (v / 2) n) ++ strN [48]) := by rw [strN_append, M.num, hb0]; exact rfl
      clear hb hb0
      go_enter Tryd.func64, Tryd.ntmps64
      go_wp2_with fail
      refine (IH.out (v / 2) _ (by omega) (by omega)).mono ?_
      rintro o w1 ⟨rfl, rfl⟩
      go_wp2
      go_ret
      exact ⟨ret_str HE.out.symm, rfl⟩
theorem flag_any (r : Bool) (w : World) : Calls Tryd.prog 83 #[.bool r] w fun o w' => o = .returned (.string (strN [48 + r.toNat])) ∧ w = w' := by
  cases r
  · go_enter Tryd.func83, Tryd.ntmps83
    go_wp2
    go_ret
    exact ⟨rfl, rfl⟩
  · go_enter Tryd.func83, Tryd.ntmps83
    go_wp2
    go_ret
    exact ⟨rfl, rfl⟩
end Go.Proofs.YtjmlalojfghkiaaDoor.J
