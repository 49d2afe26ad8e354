import Derived.Test.YtiaddabmiponoaaS05
import Derived.Deep.RegionHeld3
namespace Go.Proofs.Ytiaddabmiponoaa
open Go.RowKit
set_option linter.unusedSimpArgs false
theorem cell_al (W : World) (o : Obj) (b j : Nat) (v : Value) (hb : b < W.heap.size) (h : W.cell? ⟨b, j, none⟩ = some v) : (W.alloc o).cell? ⟨b, j, none⟩ = some v :=
  (World.cell?_alloc_lt _ _ _ (by exact hb)).trans h
theorem sf_al (w W : World) (o : Obj) (e : Bool) (i : Nat) (r : Bool) (d : Int) (a : Option Addr) (n cap : Nat) (e' : Bool) (i' : Nat) (r' : Bool) (d' : Int) (a' : Option Addr) (n' cap' : Nat)
    (h : W.cell? ⟨w.heap.size, 0, none⟩ = some (.bool e) ∧ W.cell? ⟨w.heap.size, 1, none⟩ = some (.int .u32 (i : Int)) ∧ W.cell? ⟨w.heap.size, 2, none⟩ = some (.bool r) ∧ W.cell? ⟨w.heap.size, 3, none⟩ = some (.int .i64 d) ∧ W.cell? ⟨w.heap.size, 4, none⟩ = some (.slice a n cap) ∧ W.cell? ⟨w.heap.size + 1, 0, none⟩ = some (.bool e') ∧ W.cell? ⟨w.heap.size + 1, 1, none⟩ = some (.int .u32 (i' : Int)) ∧ W.cell? ⟨w.heap.size + 1, 2, none⟩ = some (.bool r') ∧ W.cell? ⟨w.heap.size + 1, 3, none⟩ = some (.int .i64 d') ∧ W.cell? ⟨w.heap.size + 1, 4, none⟩ = some (.slice a' n' cap') ∧ Below w.heap.size w W ∧ w.heap.size + 1 < W.heap.size) : (fun W => W.cell? ⟨w.heap.size, 0, none⟩ = some (.bool e) ∧ W.cell? ⟨w.heap.size, 1, none⟩ = some (.int .u32 (i : Int)) ∧ W.cell? ⟨w.heap.size, 2, none⟩ = some (.bool r) ∧ W.cell? ⟨w.heap.size, 3, none⟩ = some (.int .i64 d) ∧ W.cell? ⟨w.heap.size, 4, none⟩ = some (.slice a n cap) ∧ W.cell? ⟨w.heap.size + 1, 0, none⟩ = some (.bool e') ∧ W.cell? ⟨w.heap.size + 1, 1, none⟩ = some (.int .u32 (i' : Int)) ∧ W.cell? ⟨w.heap.size + 1, 2, none⟩ = some (.bool r') ∧ W.cell? ⟨w.heap.size + 1, 3, none⟩ = some (.int .i64 d') ∧ W.cell? ⟨w.heap.size + 1, 4, none⟩ = some (.slice a' n' cap') ∧ Below w.heap.size w W ∧ w.heap.size + 1 < W.heap.size) (W.alloc o) := by
  obtain ⟨h0, h1, h2, h3, h4, k0, k1, k2, k3, k4, hb, hz⟩ := h
  have z0 : w.heap.size < W.heap.size := by omega
  exact ⟨cell_al _ _ _ _ _ z0 h0, cell_al _ _ _ _ _ z0 h1, cell_al _ _ _ _ _ z0 h2, cell_al _ _ _ _ _ z0 h3, cell_al _ _ _ _ _ z0 h4, cell_al _ _ _ _ _ hz k0, cell_al _ _ _ _ _ hz k1, cell_al _ _ _ _ _ hz k2, cell_al _ _ _ _ _ hz k3, cell_al _ _ _ _ _ hz k4, hb.alloc (by omega) _, by simp; omega⟩
theorem sf_0 (w : World) (e : Bool) (i : Nat) (r : Bool) (d : Int) (a : Option Addr) (n cap : Nat) (e' : Bool) (i' : Nat) (r' : Bool) (d' : Int) (a' : Option Addr) (n' cap' : Nat) :
    (fun W => W.cell? ⟨w.heap.size, 0, none⟩ = some (.bool e) ∧ W.cell? ⟨w.heap.size, 1, none⟩ = some (.int .u32 (i : Int)) ∧ W.cell? ⟨w.heap.size, 2, none⟩ = some (.bool r) ∧ W.cell? ⟨w.heap.size, 3, none⟩ = some (.int .i64 d) ∧ W.cell? ⟨w.heap.size, 4, none⟩ = some (.slice a n cap) ∧ W.cell? ⟨w.heap.size + 1, 0, none⟩ = some (.bool e') ∧ W.cell? ⟨w.heap.size + 1, 1, none⟩ = some (.int .u32 (i' : Int)) ∧ W.cell? ⟨w.heap.size + 1, 2, none⟩ = some (.bool r') ∧ W.cell? ⟨w.heap.size + 1, 3, none⟩ = some (.int .i64 d') ∧ W.cell? ⟨w.heap.size + 1, 4, none⟩ = some (.slice a' n' cap') ∧ Below w.heap.size w W ∧ w.heap.size + 1 < W.heap.size) ((w.alloc (frC e i r d a n cap 34)).alloc (frC e' i' r' d' a' n' cap' 34)).drew := by
  refine ⟨?_, ?_, ?_, ?_, ?_, ?_, ?_, ?_, ?_, ?_, (((Below.refl _ _).alloc (Nat.le_refl _) _).alloc (by simp) _).drew, by simp⟩ <;> go_simp
theorem below_of {w W : World} {e : Bool} {i : Nat} {r : Bool} {d : Int} {a : Option Addr} {n cap : Nat} {e' : Bool} {i' : Nat} {r' : Bool} {d' : Int} {a' : Option Addr} {n' cap' : Nat}
    (h : W.cell? ⟨w.heap.size, 0, none⟩ = some (.bool e) ∧ W.cell? ⟨w.heap.size, 1, none⟩ = some (.int .u32 (i : Int)) ∧ W.cell? ⟨w.heap.size, 2, none⟩ = some (.bool r) ∧ W.cell? ⟨w.heap.size, 3, none⟩ = some (.int .i64 d) ∧ W.cell? ⟨w.heap.size, 4, none⟩ = some (.slice a n cap) ∧ W.cell? ⟨w.heap.size + 1, 0, none⟩ = some (.bool e') ∧ W.cell? ⟨w.heap.size + 1, 1, none⟩ = some (.int .u32 (i' : Int)) ∧ W.cell? ⟨w.heap.size + 1, 2, none⟩ = some (.bool r') ∧ W.cell? ⟨w.heap.size + 1, 3, none⟩ = some (.int .i64 d') ∧ W.cell? ⟨w.heap.size + 1, 4, none⟩ = some (.slice a' n' cap') ∧ Below w.heap.size w W ∧ w.heap.size + 1 < W.heap.size) : Below w.heap.size w W := h.2.2.2.2.2.2.2.2.2.2.1
theorem valid_eq (e : Bool) (i : Nat) (r : Bool) (d : Int) (n : Nat) (i' : Nat) (d' : Int) (k : Nat) (l l' : List Nat)
    (hi' : (if (536870911 : Int) < (i : Int) then (536870911 : Int) else (i : Int)) = (i' : Int)) (hd' : (if (15 : Int) < (if d < 0 then 0 else d) then (15 : Int) else (if d < 0 then 0 else d)) = d') (hk : dl (r && ((n : Int) == 0)) d' = (k : Int))
    (h1 : n = k → l' = l) (h2 : n ≠ k → l' ≠ l) :
    ((e == (e || decide ((2047 : Int) < (i : Int)))) && (r == (r && ((n : Int) == 0))) && ((i : Int) == (i' : Int)) && (d == d') && decide (l = l')) = validB e i r d n := by
  have hl : decide (l = l') = decide (n = k) := by
    by_cases h : n = k
    · rw [h1 h]; simp [h]
    · have := h2 h
      simp only [h, decide_false, decide_eq_false_iff_not]
      exact fun e => this e.symm
  rw [hl]
  unfold validB
  rw [Bool.eq_iff_iff]
  simp only [Bool.and_eq_true, beq_iff_eq, decide_eq_true_iff]
  by_cases hd : 0 ≤ d ∧ d ≤ 15
  · have hdd : d' = d := by
      rw [← hd']
      have a1 : ¬ d < 0 := by omega
      have a2 : ¬ (15 : Int) < d := by omega
      simp [a1, a2]
    rw [hdd] at hk
    rw [hdd]
    by_cases hi : (536870911 : Int) < (i : Int)
    · rw [if_pos hi] at hi'
      constructor
      · rintro ⟨⟨⟨⟨_, _⟩, h3⟩, _⟩, _⟩
        omega
      · rintro ⟨⟨⟨h3, _⟩, _⟩, _⟩
        exfalso
        cases e
        · simp at h3; omega
        · simp at h3; omega
    · rw [if_neg hi] at hi'
      cases e
      · cases r
        · have hkk : dl false d = (k : Int) := hk
          simp
          rw [hkk]
          omega
        · have hkk : dl ((n : Int) == 0) d = (k : Int) := by simpa using hk
          by_cases hn : n = 0
          · subst hn
            have hz : dl true d = 0 := by simp [dl]
            have hk0 : dl true d = (k : Int) := by simpa using hkk
            simp [hz]
            omega
          · have hz : dl true d = 0 := by simp [dl]
            simp [hz, hn]
      · cases r
        · have hkk : dl false d = (k : Int) := hk
          simp
          rw [hkk]
          omega
        · have hkk : dl ((n : Int) == 0) d = (k : Int) := by simpa using hk
          by_cases hn : n = 0
          · subst hn
            have hz : dl true d = 0 := by simp [dl]
            have hk0 : dl true d = (k : Int) := by simpa using hkk
            simp [hz]
            omega
          · have hz : dl true d = 0 := by simp [dl]
            simp [hz, hn]
  · constructor
    · rintro ⟨⟨_, h4⟩, _⟩
      exfalso
      rw [← hd'] at h4
      split at h4
      · omega
      · split at h4 <;> omega
    · rintro ⟨⟨⟨_, h4⟩, h5⟩, _⟩
      exact absurd ⟨h4, h5⟩ hd
theorem vf_be (w W W' : World) (e : Bool) (i : Nat) (r : Bool) (d : Int) (a : Option Addr) (n cap : Nat) (h : W.cell? ⟨w.heap.size, 0, none⟩ = some (.bool e) ∧ W.cell? ⟨w.heap.size, 1, none⟩ = some (.int .u32 (i : Int)) ∧ W.cell? ⟨w.heap.size, 2, none⟩ = some (.bool r) ∧ W.cell? ⟨w.heap.size, 3, none⟩ = some (.int .i64 d) ∧ W.cell? ⟨w.heap.size, 4, none⟩ = some (.slice a n cap) ∧ Below w.heap.size w W ∧ w.heap.size < W.heap.size) (hb : Below W.heap.size W W') : (fun W => W.cell? ⟨w.heap.size, 0, none⟩ = some (.bool e) ∧ W.cell? ⟨w.heap.size, 1, none⟩ = some (.int .u32 (i : Int)) ∧ W.cell? ⟨w.heap.size, 2, none⟩ = some (.bool r) ∧ W.cell? ⟨w.heap.size, 3, none⟩ = some (.int .i64 d) ∧ W.cell? ⟨w.heap.size, 4, none⟩ = some (.slice a n cap) ∧ Below w.heap.size w W ∧ w.heap.size < W.heap.size) W' := by
  obtain ⟨h0, h1, h2, h3, h4, hbl, hz⟩ := h
  exact ⟨(hb.cell (by exact hz)).trans h0, (hb.cell (by exact hz)).trans h1, (hb.cell (by exact hz)).trans h2, (hb.cell (by exact hz)).trans h3, (hb.cell (by exact hz)).trans h4, hbl.trans (hb.mono (by omega)), Nat.lt_of_lt_of_le hz hb.size⟩
theorem vf_0 (w : World) (e : Bool) (i : Nat) (r : Bool) (d : Int) (a : Option Addr) (n cap : Nat) : (fun W => W.cell? ⟨w.heap.size, 0, none⟩ = some (.bool e) ∧ W.cell? ⟨w.heap.size, 1, none⟩ = some (.int .u32 (i : Int)) ∧ W.cell? ⟨w.heap.size, 2, none⟩ = some (.bool r) ∧ W.cell? ⟨w.heap.size, 3, none⟩ = some (.int .i64 d) ∧ W.cell? ⟨w.heap.size, 4, none⟩ = some (.slice a n cap) ∧ Below w.heap.size w W ∧ w.heap.size < W.heap.size) (w.alloc (frC e i r d a n cap 34)).drew := by
  refine ⟨?_, ?_, ?_, ?_, ?_, ((Below.refl _ _).alloc (Nat.le_refl _) _).drew, by simp⟩ <;> go_simp
theorem vf_below {w W : World} {e : Bool} {i : Nat} {r : Bool} {d : Int} {a : Option Addr} {n cap : Nat} (h : W.cell? ⟨w.heap.size, 0, none⟩ = some (.bool e) ∧ W.cell? ⟨w.heap.size, 1, none⟩ = some (.int .u32 (i : Int)) ∧ W.cell? ⟨w.heap.size, 2, none⟩ = some (.bool r) ∧ W.cell? ⟨w.heap.size, 3, none⟩ = some (.int .i64 d) ∧ W.cell? ⟨w.heap.size, 4, none⟩ = some (.slice a n cap) ∧ Below w.heap.size w W ∧ w.heap.size < W.heap.size) : Below w.heap.size w W := h.2.2.2.2.2.1
theorem vf_size {w W : World} {e : Bool} {i : Nat} {r : Bool} {d : Int} {a : Option Addr} {n cap : Nat} (h : W.cell? ⟨w.heap.size, 0, none⟩ = some (.bool e) ∧ W.cell? ⟨w.heap.size, 1, none⟩ = some (.int .u32 (i : Int)) ∧ W.cell? ⟨w.heap.size, 2, none⟩ = some (.bool r) ∧ W.cell? ⟨w.heap.size, 3, none⟩ = some (.int .i64 d) ∧ W.cell? ⟨w.heap.size, 4, none⟩ = some (.slice a n cap) ∧ Below w.heap.size w W ∧ w.heap.size < W.heap.size) : w.heap.size < W.heap.size := h.2.2.2.2.2.2
theorem bcell {W w1 : World} (hb : Below W.heap.size W w1) : (∀ b o, b < W.heap.size → w1.cell? ⟨b, o, none⟩ = W.cell? ⟨b, o, none⟩) ∧ (∀ b o, b < W.heap.size → w1.frozen? ⟨b, o, none⟩ = W.frozen? ⟨b, o, none⟩) :=
  ⟨fun b o h => hb.cell (p := ⟨b, o, none⟩) h, fun b o h => hb.frozen (p := ⟨b, o, none⟩) h⟩
theorem isBytes.setOther {w : World} {g n cap : Nat} {l : List Nat} (h : isBytes w (some ⟨g, 0, none⟩) n cap l) (b j : Nat) (v : Value) (hb : b ≠ g) : isBytes (w.setCell ⟨b, j, none⟩ v) (some ⟨g, 0, none⟩) n cap l := by
  refine ⟨h.len, h.cap, h.small, fun hl => ?_⟩
  obtain ⟨g', off, ha, hc⟩ := h.cells hl
  refine ⟨g', off, ha, fun t ht => ?_⟩
  cases ha
  rw [World.cell?_setCell_other _ _ _ _ (by intro hh; exact hb (congrArg Addr.block hh))]
  exact hc t ht
set_option maxHeartbeats 1000000 in
theorem eqByteS_same (w : World) (a1 a2 : Option Addr) (n1 c1 n2 c2 : Nat) (l : List Nat) (h1 : isBytes w a1 n1 c1 l) (h2 : isBytes w a2 n2 c2 l) (hn : n1 ≤ 1048576) :
    Calls Try.prog 34 #[.slice a1 n1 c1, .slice a2 n2 c2] w fun o w' => o = .returned (.bool true) ∧ ∃ q, w' = w.drewN q := by
  have e1 := h1.len
  have e2 := h2.len
  by_cases hl : l = []
  · subst hl
    have e1' : n1 = 0 := e1
    have e2' : n2 = 0 := e2
    subst e1' e2'
    clear e1 e2 h1 h2
    go_enter Try.func34, Try.ntmps34
    go_wp2
    go_loopw [5] (fun i wr => i = .int .i64 0 ∧ wr = w) (fun _ _ => 0)
    case atStart => exact ⟨rfl, rfl⟩
    case round =>
      obtain ⟨rfl, rfl⟩ := hrel
      go_wp2
      go_ret
      exact ⟨rfl, 0, rfl⟩
  · obtain ⟨g1, o1, rfl, k1⟩ := h1.cells hl
    obtain ⟨g2, o2, rfl, k2⟩ := h2.cells hl
    have hnn : n2 = n1 := by omega
    subst hnn
    have hn1 : n2 ≤ l.length := by omega
    clear e1 e2 h1 h2
    go_enter Try.func34, Try.ntmps34
    go_wp2
    go_loopw [5] (fun i wr => ∃ k : Nat, k ≤ n2 ∧ i = .int .i64 k ∧ ∃ q, wr = w.drewN q) (fun i _ => n2 - (intOf i).toNat)
    case atStart => exact ⟨0, Nat.zero_le _, rfl, 0, rfl⟩
    case round =>
      obtain ⟨k, hk, rfl, q, rfl⟩ := hrel
      by_cases hlt : k < n2
      · have c1 := k1 k (by omega)
        have c2 := k2 k (by omega)
        generalize l[k] = x at *
        go_wp2
        go_quiet (fail)
        go_wp2
        go_roundw
        case rel => exact ⟨k + 1, by omega, by go_num, _, rfl⟩
        case measure => simp [intOf]; omega
      · go_wp2
        go_ret
        exact ⟨rfl, _, rfl⟩
theorem below_q {B : Nat} (w : World) (q : Nat) : Below B w (w.drewN q) := below_drewN (Below.refl _ _) q
set_option maxHeartbeats 1000000 in
set_option maxRecDepth 20000 in
theorem eqFrame_same (w : World) (e : Bool) (i : Nat) (r : Bool) (d : Int) (a : Option Addr) (n cap : Nat) (l : List Nat) (h : isBytes w a n cap l) (a' : Option Addr) (n' cap' : Nat) (h' : isBytes w a' n' cap' l) (hn : n ≤ 1048576) :
    Calls Try.prog 25 #[frV e i r d a n cap, frV e i r d a' n' cap'] w fun o w' => o = .returned (.bool true) ∧ Below w.heap.size w w' := by
  have HH : Hid (isBytes w a n cap l) := h
  have HH' : Hid (isBytes w a' n' cap' l) := h'
  clear h h'
  have hE : (e != e) = false := by simp
  have hR : (r != r) = false := by simp
  have hD : (d != d) = false := by simp
  have hI : ((i : Int) != (i : Int)) = false := by simp
  have hbl : Below w.heap.size w ((w.alloc (frC e i r d a n cap 34)).alloc (frC e i r d a' n' cap' 34)) := ((Below.refl _ _).alloc (Nat.le_refl _) _).alloc (by simp) _
  have HB : Hid (Below w.heap.size w ((w.alloc (frC e i r d a n cap 34)).alloc (frC e i r d a' n' cap' 34))) := hbl
  clear hbl
  go_enter Try.func25, Try.ntmps25
  go_wp2_with (first | (go_at_call 34; refine (eqByteS_same _ _ _ _ _ _ _ l (HH.out.below HB.out) (HH'.out.below HB.out) hn).mono ?_; rintro o w1 ⟨rfl, q, rfl⟩))
  go_ret
  exact ⟨rfl, below_drewN HB.out q⟩
theorem box5 {W w1 : World} {b : Nat} {e : Bool} {i : Nat} {r : Bool} {d : Int} {v : Value} (hb : Below W.heap.size W w1) (hz : b < W.heap.size)
    (h : W.cell? ⟨b, 0, none⟩ = some (.bool e) ∧ W.cell? ⟨b, 1, none⟩ = some (.int .u32 (i : Int)) ∧ W.cell? ⟨b, 2, none⟩ = some (.bool r) ∧ W.cell? ⟨b, 3, none⟩ = some (.int .i64 d) ∧ W.cell? ⟨b, 4, none⟩ = some (v)) : w1.cell? ⟨b, 0, none⟩ = some (.bool e) ∧ w1.cell? ⟨b, 1, none⟩ = some (.int .u32 (i : Int)) ∧ w1.cell? ⟨b, 2, none⟩ = some (.bool r) ∧ w1.cell? ⟨b, 3, none⟩ = some (.int .i64 d) ∧ w1.cell? ⟨b, 4, none⟩ = some (v) := by
  obtain ⟨h0, h1, h2, h3, h4⟩ := h
  exact ⟨(hb.cell (by exact hz)).trans h0, (hb.cell (by exact hz)).trans h1, (hb.cell (by exact hz)).trans h2, (hb.cell (by exact hz)).trans h3, (hb.cell (by exact hz)).trans h4⟩
theorem lf_be (W W' : World) (b1 b2 g : Nat) (e : Bool) (i : Nat) (r : Bool) (d : Int) (a : Option Addr) (n cap : Nat) (l : List Nat) (h : W.cell? ⟨b1, 0, none⟩ = some (.bool e) ∧ W.cell? ⟨b1, 1, none⟩ = some (.int .u32 (i : Int)) ∧ W.cell? ⟨b1, 2, none⟩ = some (.bool r) ∧ W.cell? ⟨b1, 3, none⟩ = some (.int .i64 d) ∧ W.cell? ⟨b1, 4, none⟩ = some (.slice a n cap) ∧ W.cell? ⟨b2, 0, none⟩ = some (.bool e) ∧ W.cell? ⟨b2, 1, none⟩ = some (.int .u32 (i : Int)) ∧ W.cell? ⟨b2, 2, none⟩ = some (.bool r) ∧ W.cell? ⟨b2, 3, none⟩ = some (.int .i64 d) ∧ W.cell? ⟨b2, 4, none⟩ = some (.slice (some ⟨g, 0, none⟩) n n) ∧ isBytes W a n cap l ∧ isBytes W (some ⟨g, 0, none⟩) n n l ∧ b1 < W.heap.size ∧ b2 < W.heap.size) (hb : Below W.heap.size W W') : (fun W => W.cell? ⟨b1, 0, none⟩ = some (.bool e) ∧ W.cell? ⟨b1, 1, none⟩ = some (.int .u32 (i : Int)) ∧ W.cell? ⟨b1, 2, none⟩ = some (.bool r) ∧ W.cell? ⟨b1, 3, none⟩ = some (.int .i64 d) ∧ W.cell? ⟨b1, 4, none⟩ = some (.slice a n cap) ∧ W.cell? ⟨b2, 0, none⟩ = some (.bool e) ∧ W.cell? ⟨b2, 1, none⟩ = some (.int .u32 (i : Int)) ∧ W.cell? ⟨b2, 2, none⟩ = some (.bool r) ∧ W.cell? ⟨b2, 3, none⟩ = some (.int .i64 d) ∧ W.cell? ⟨b2, 4, none⟩ = some (.slice (some ⟨g, 0, none⟩) n n) ∧ isBytes W a n cap l ∧ isBytes W (some ⟨g, 0, none⟩) n n l ∧ b1 < W.heap.size ∧ b2 < W.heap.size) W' := by
  obtain ⟨h0, h1, h2, h3, h4, k0, k1, k2, k3, k4, y1, y2, z1, z2⟩ := h
  exact ⟨(hb.cell (by exact z1)).trans h0, (hb.cell (by exact z1)).trans h1, (hb.cell (by exact z1)).trans h2, (hb.cell (by exact z1)).trans h3, (hb.cell (by exact z1)).trans h4, (hb.cell (by exact z2)).trans k0, (hb.cell (by exact z2)).trans k1, (hb.cell (by exact z2)).trans k2, (hb.cell (by exact z2)).trans k3, (hb.cell (by exact z2)).trans k4, y1.below hb, y2.below hb, Nat.lt_of_lt_of_le z1 hb.size, Nat.lt_of_lt_of_le z2 hb.size⟩
theorem lf_drew (W : World) (b1 b2 g : Nat) (e : Bool) (i : Nat) (r : Bool) (d : Int) (a : Option Addr) (n cap : Nat) (l : List Nat) (h : W.cell? ⟨b1, 0, none⟩ = some (.bool e) ∧ W.cell? ⟨b1, 1, none⟩ = some (.int .u32 (i : Int)) ∧ W.cell? ⟨b1, 2, none⟩ = some (.bool r) ∧ W.cell? ⟨b1, 3, none⟩ = some (.int .i64 d) ∧ W.cell? ⟨b1, 4, none⟩ = some (.slice a n cap) ∧ W.cell? ⟨b2, 0, none⟩ = some (.bool e) ∧ W.cell? ⟨b2, 1, none⟩ = some (.int .u32 (i : Int)) ∧ W.cell? ⟨b2, 2, none⟩ = some (.bool r) ∧ W.cell? ⟨b2, 3, none⟩ = some (.int .i64 d) ∧ W.cell? ⟨b2, 4, none⟩ = some (.slice (some ⟨g, 0, none⟩) n n) ∧ isBytes W a n cap l ∧ isBytes W (some ⟨g, 0, none⟩) n n l ∧ b1 < W.heap.size ∧ b2 < W.heap.size) : (fun W => W.cell? ⟨b1, 0, none⟩ = some (.bool e) ∧ W.cell? ⟨b1, 1, none⟩ = some (.int .u32 (i : Int)) ∧ W.cell? ⟨b1, 2, none⟩ = some (.bool r) ∧ W.cell? ⟨b1, 3, none⟩ = some (.int .i64 d) ∧ W.cell? ⟨b1, 4, none⟩ = some (.slice a n cap) ∧ W.cell? ⟨b2, 0, none⟩ = some (.bool e) ∧ W.cell? ⟨b2, 1, none⟩ = some (.int .u32 (i : Int)) ∧ W.cell? ⟨b2, 2, none⟩ = some (.bool r) ∧ W.cell? ⟨b2, 3, none⟩ = some (.int .i64 d) ∧ W.cell? ⟨b2, 4, none⟩ = some (.slice (some ⟨g, 0, none⟩) n n) ∧ isBytes W a n cap l ∧ isBytes W (some ⟨g, 0, none⟩) n n l ∧ b1 < W.heap.size ∧ b2 < W.heap.size) W.drew :=
  lf_be W W.drew b1 b2 g e i r d a n cap l h (Below.refl _ _).drew
theorem isBytes.drew {W : World} {a : Option Addr} {n cap : Nat} {l : List Nat} (h : isBytes W a n cap l) : isBytes W.drew a n cap l := h.below (Below.refl _ _).drew
theorem lf_y1 {W : World} {b1 b2 g : Nat} {e : Bool} {i : Nat} {r : Bool} {d : Int} {a : Option Addr} {n cap : Nat} {l : List Nat} (h : W.cell? ⟨b1, 0, none⟩ = some (.bool e) ∧ W.cell? ⟨b1, 1, none⟩ = some (.int .u32 (i : Int)) ∧ W.cell? ⟨b1, 2, none⟩ = some (.bool r) ∧ W.cell? ⟨b1, 3, none⟩ = some (.int .i64 d) ∧ W.cell? ⟨b1, 4, none⟩ = some (.slice a n cap) ∧ W.cell? ⟨b2, 0, none⟩ = some (.bool e) ∧ W.cell? ⟨b2, 1, none⟩ = some (.int .u32 (i : Int)) ∧ W.cell? ⟨b2, 2, none⟩ = some (.bool r) ∧ W.cell? ⟨b2, 3, none⟩ = some (.int .i64 d) ∧ W.cell? ⟨b2, 4, none⟩ = some (.slice (some ⟨g, 0, none⟩) n n) ∧ isBytes W a n cap l ∧ isBytes W (some ⟨g, 0, none⟩) n n l ∧ b1 < W.heap.size ∧ b2 < W.heap.size) : isBytes W a n cap l := h.2.2.2.2.2.2.2.2.2.2.1
theorem lf_y2 {W : World} {b1 b2 g : Nat} {e : Bool} {i : Nat} {r : Bool} {d : Int} {a : Option Addr} {n cap : Nat} {l : List Nat} (h : W.cell? ⟨b1, 0, none⟩ = some (.bool e) ∧ W.cell? ⟨b1, 1, none⟩ = some (.int .u32 (i : Int)) ∧ W.cell? ⟨b1, 2, none⟩ = some (.bool r) ∧ W.cell? ⟨b1, 3, none⟩ = some (.int .i64 d) ∧ W.cell? ⟨b1, 4, none⟩ = some (.slice a n cap) ∧ W.cell? ⟨b2, 0, none⟩ = some (.bool e) ∧ W.cell? ⟨b2, 1, none⟩ = some (.int .u32 (i : Int)) ∧ W.cell? ⟨b2, 2, none⟩ = some (.bool r) ∧ W.cell? ⟨b2, 3, none⟩ = some (.int .i64 d) ∧ W.cell? ⟨b2, 4, none⟩ = some (.slice (some ⟨g, 0, none⟩) n n) ∧ isBytes W a n cap l ∧ isBytes W (some ⟨g, 0, none⟩) n n l ∧ b1 < W.heap.size ∧ b2 < W.heap.size) : isBytes W (some ⟨g, 0, none⟩) n n l := h.2.2.2.2.2.2.2.2.2.2.2.1
namespace M
/-- the number v as n letters, the highest first -/
def num (v : Nat) : Nat → List Nat
  | 0 => []
  | n + 1 => num (v / 2) n ++ [48 + v % 2]
theorem num_length (n v : Nat) : (num v n).length = n := by
  induction n generalizing v with
  | zero => rfl
  | succ n ih => simp [num, ih]
theorem num_isL (n v : Nat) : ∀ x ∈ num v n, isL x := by
  induction n generalizing v with
  | zero => intro x hx; cases hx
  | succ n ih =>
    intro x hx
    simp only [num, List.mem_append, List.mem_singleton] at hx
    rcases hx with hx | rfl
    · exact ih _ x hx
    · unfold isL; omega
theorem num_split (b v : Nat) : ∀ a, num v (a + b) = num (v / 2 ^ b) a ++ num v b := by
  induction b generalizing v with
  | zero => intro a; simp [num]
  | succ b ih =>
    intro a
    have e1 : a + (b + 1) = (a + b) + 1 := by omega
    have e2 : v / 2 ^ (b + 1) = v / 2 / 2 ^ b := by rw [Nat.pow_succ, Nat.mul_comm, Nat.div_div_eq_div_mul]
    rw [e1, num, ih, num, e2, List.append_assoc]
end M
theorem strN_append (l m : List Nat) : strN l ++ strN m = strN (l ++ m) := by
  unfold strN
  apply ByteArray.ext
  simp
theorem strN_size (l : List Nat) : (strN l).size = l.length := by
  unfold strN; simp [ByteArray.size]
theorem num_step (v c m : Nat) (h : m < c) : M.num (v / 2 ^ m) (c - m) = M.num (v / 2 ^ (m + 1)) (c - (m + 1)) ++ [48 + v / 2 ^ m % 2] := by
  have e : v / 2 ^ m / 2 = v / 2 ^ (m + 1) := by
    rw [Nat.div_div_eq_div_mul, ← Nat.pow_succ]
  have e2 : c - m = (c - (m + 1)) + 1 := by omega
  rw [e2, M.num, e]
theorem bit_at (x m : Nat) (hx : x < 4294967296) : (48 + bits BinOp.and IntKind.u32 ((x : Int) / 2 ^ m) 1) % 256 = ((48 + x / 2 ^ m % 2 : Nat) : Int) := by
  have e : (x : Int) / 2 ^ m = ((x / 2 ^ m : Nat) : Int) := by simp
  have hy : x / 2 ^ m < 4294967296 := Nat.lt_of_le_of_lt (Nat.div_le_self _ _) hx
  rw [e, show (1 : Int) = ((1 : Nat) : Int) from rfl, u32_and_nat _ _ hy (by omega), nat_mask1]
  omega
/-- the letters of the arbitration field -/
def arbL (e : Bool) (i : Nat) (r : Bool) : List Nat :=
  if e = true then M.num (i / 2 ^ 18) 11 ++ [49, 49] ++ M.num i 18 ++ [48 + r.toNat] else M.num i 11 ++ [48 + r.toNat] ++ [48]
theorem arbL_length (e : Bool) (i : Nat) (r : Bool) : (arbL e i r).length ≤ 32 := by
  cases e <;> simp [arbL, M.num_length]
theorem num01 : M.num 0 1 = [48] := rfl
theorem num11 : M.num 1 1 = [49] := rfl
/-- two letters put behind a row of letters -/
theorem app_two {ops : Array Oper} {rest : List Oper} {o : Oper} {a : Act} {Q : Exit → Act → World → Prop} (w0 wr : World) (hgd : o.guard = none) (s x : Operand)
    (ho : o.op = .call { callee := .builtin .append, args := #[s, x], argTypes := #[32, 32] })
    (B : Nat) (v : Value) (l : List Nat) (c d : Nat) (hs : a.eval s = v) (hown : ownsB wr B v l)
    (hx : a.eval x = .slice (some ⟨wr.heap.size, 0, none⟩) 2 2) (hlen : l.length ≤ 100000000) (hB : B ≤ wr.heap.size) (hbel : Below B w0 wr)
    (h : ∀ v' w', ownsB w' B v' (l ++ [c, d]) → Below B w0 w' → Lib.OthersKept 5 none wr w' → wpList Try.prog ops Q rest (a.put o.dst v') w') :
    wpList Try.prog ops Q (o :: rest) a (wr.alloc (.cells #[.int .u8 (c : Int), .int .u8 (d : Int)] 5)) := by
  obtain ⟨i0, hi, hz0, hz1, hz2⟩ := info_parts Try.info5
  refine wpList_append_own _ hgd s x 32 ho B 5 i0 (.int .u8 0) 1 1 Try.underlying32 hi hz0 hz1 hz2 rfl (by decide) v l.length (bv l) hs (World.ownsRow.alloc hown _) ⟨wr.heap.size, 0, none⟩ 2 2 [.int .u8 (c : Int), .int .u8 (d : Int)] hx rfl ?_ ?_ ?_ ?_ ?_ ?_
  · exact cell_two_new wr (.int .u8 (c : Int)) (.int .u8 (d : Int)) 5
  · intro u hu; simp at hu; rcases hu with rfl | rfl <;> rfl
  · unfold maxLen; omega
  · omega
  · simp; omega
  · intro v' w' ho' hg _
    have hr : ∀ k, v.ownBlock = some k → B ≤ k := fun k hk => (World.ownsRow.lt hown k hk).1
    refine h v' w' ?_ ((hbel.alloc hB _).grown hg (by simp; omega) hr) (((Lib.OthersKept.refl 5 none wr).alloc _).grown hg ?_)
    · have e1 : bv (l ++ [c, d]) = bv l ++ [.int .u8 (c : Int), .int .u8 (d : Int)] := by simp [bv]
      unfold ownsB
      rw [e1, List.length_append]
      exact ho'
    · intro g hg'
      exact ownsB.kind (B := B) (l := l) (World.ownsRow.alloc hown _) g hg'
/-- the box of a frame stands through what only rows of letters are turned by -/
theorem box_kept {W W' : World} {b : Nat} {o : Obj} (h : W.heap[b]? = some o) (hk : Lib.OthersKept 5 none W W') (ho : ∀ c fz, o ≠ .cells c 5 fz) : W'.heap[b]? = some o := hk b o h (by simp) ho
theorem frC_ne (e : Bool) (i : Nat) (r : Bool) (d : Int) (a : Option Addr) (n cap : Nat) : ∀ c fz, frC e i r d a n cap 34 ≠ .cells c 5 fz := by
  intro c fz h; cases h
theorem frC_cells {W : World} {b : Nat} {e : Bool} {i : Nat} {r : Bool} {d : Int} {a : Option Addr} {n cap : Nat} (h : W.heap[b]? = some (frC e i r d a n cap 34)) :
    W.cell? ⟨b, 0, none⟩ = some (.bool e) ∧ W.cell? ⟨b, 1, none⟩ = some (.int .u32 (i : Int)) ∧ W.cell? ⟨b, 2, none⟩ = some (.bool r) ∧ W.cell? ⟨b, 3, none⟩ = some (.int .i64 d) ∧ W.cell? ⟨b, 4, none⟩ = some (.slice a n cap) := by
  refine ⟨?_, ?_, ?_, ?_, ?_⟩ <;> simp [World.cell?, h]
theorem sizeRes_any (w : World) (e : Bool) (i : Nat) (r : Bool) (d : Int) (a : Option Addr) (n cap : Nat) :
    Calls Try.prog 56 #[.int .i64 7, frV e i r d a n cap] w fun o w' => o = .returned (.int .i64 ((1 + e.toNat : Nat) : Int)) ∧ w.alloc (frC e i r d a n cap 34) = w' := by
  cases e
  · go_enter Try.func56, Try.ntmps56
    go_wp2
    go_ret
    exact ⟨rfl, rfl⟩
  · go_enter Try.func56, Try.ntmps56
    go_wp2
    go_ret
    exact ⟨rfl, rfl⟩
/-- the letters of the body -/
def bodyL (e : Bool) (i : Nat) (r : Bool) (d : Nat) (l : List Nat) : List Nat :=
  [48] ++ arbL e i r ++ M.num 0 (1 + e.toNat) ++ M.num d 4 ++ l.flatMap (fun x => M.num x 8)
theorem bodyL_length (e : Bool) (i : Nat) (r : Bool) (d : Nat) (l : List Nat) : (bodyL e i r d l).length = (if e = true then 39 else 19) + 8 * l.length := by
  have h8 : (l.flatMap (fun x => M.num x 8)).length = 8 * l.length := by
    induction l with
    | nil => rfl
    | cons a l ih => rw [List.flatMap_cons, List.length_append, ih, M.num_length, List.length_cons]; omega
  cases e <;> simp [bodyL, arbL, M.num_length, h8] <;> omega
theorem bodyL_isL (e : Bool) (i : Nat) (r : Bool) (d : Nat) (l : List Nat) : ∀ x ∈ bodyL e i r d l, M.isL x := by
  have hf : ∀ x, x = 48 + r.toNat → M.isL x := by intro x hx; subst hx; cases r; exact .inl rfl; exact .inr rfl
  have h0 : M.isL 48 := .inl rfl
  have h1 : M.isL 49 := .inr rfl
  intro x hx
  cases e
  · simp only [bodyL, arbL, List.mem_append, List.mem_flatMap, List.mem_singleton, Bool.false_eq_true, if_false] at hx
    rcases hx with (((rfl | (hx | hx) | hx) | hx) | hx) | ⟨y, _, hx⟩
    · exact h0
    · exact M.num_isL _ _ x hx
    · exact hf x hx
    · subst hx; exact h0
    · exact M.num_isL _ _ x hx
    · exact M.num_isL _ _ x hx
    · exact M.num_isL _ _ x hx
  · simp only [bodyL, arbL, List.mem_append, List.mem_flatMap, List.mem_cons, List.not_mem_nil, or_false, if_true] at hx
    rcases hx with (((rfl | (((hx | hx) | hx) | hx)) | hx) | hx) | ⟨y, _, hx⟩
    · exact h0
    · exact M.num_isL _ _ x hx
    · rcases hx with rfl | rfl <;> exact h1
    · exact M.num_isL _ _ x hx
    · exact hf x hx
    · exact M.num_isL _ _ x hx
    · exact M.num_isL _ _ x hx
    · exact M.num_isL _ _ x hx
theorem own_one (w : World) (c : Nat) (B : Nat) (hB : B ≤ w.heap.size) : ownsB (w.alloc (.cells #[.int .u8 (c : Int)] 5)) B (.slice (some ⟨w.heap.size, 0, none⟩) 1 1) [c] :=
  World.ownsRow_lit w #[.int .u8 (c : Int)] 1 hB (by decide) rfl
end Go.Proofs.Ytiaddabmiponoaa
