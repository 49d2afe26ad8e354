import Derived.Test.YtpknchjjfiiaeaaDoorT05
import Derived.Test.YtpknchjjfiiaeaaDoorT06
namespace Go.Proofs.YtpknchjjfiiaeaaDoor.J
open Go.RowKit
theorem same_any (w : World) (e : Bool) (i : Nat) (r : Bool) (d : Int) (a : Option Addr) (n cap : Nat) (l : List Nat) (h : isBytes w a n cap l)
    (e' : Bool) (i' : Nat) (r' : Bool) (d' : Int) (a' : Option Addr) (n' cap' : Nat) (l' : List Nat) (h' : isBytes w a' n' cap' l') :
    Calls Tryd.prog 39 #[frV e i r d a n cap, frV e' i' r' d' a' n' cap'] w fun o w' => o = .returned (.bool ((e == e') && (r == r') && ((i : Int) == (i' : Int)) && (d == d') && decide (l = l'))) ∧ Below w.heap.size w w' := by
  cases hh : ((e == e') && (r == r'))
  · refine (same_A w e i r d a n cap e' i' r' d' a' n' cap' hh).mono ?_
    rintro o w' ⟨rfl, hb⟩
    exact ⟨rfl, hb⟩
  · cases hi : ((i : Int) == (i' : Int))
    · refine (same_B w e i r d a n cap e' i' r' d' a' n' cap' hh hi).mono ?_
      rintro o w' ⟨rfl, hb⟩
      exact ⟨rfl, hb⟩
    · cases hd : (d == d')
      · refine (same_C w e i r d a n cap e' i' r' d' a' n' cap' hh hi hd).mono ?_
        rintro o w' ⟨rfl, hb⟩
        exact ⟨rfl, hb⟩
      · have e1 : e = e' := by simp at hh; exact hh.1
        have e2 : r = r' := by simp at hh; exact hh.2
        have e3 : i = i' := by simp at hi; omega
        have e4 : d = d' := by simpa using hd
        subst e1 e2 e3 e4
        refine (same_D w e i r d a n cap l h a' n' cap' l' h').mono ?_
        rintro o w' ⟨rfl, hb⟩
        exact ⟨by simp, hb⟩
theorem valid_eq (e : Bool) (i : Nat) (r : Bool) (d : Int) (n : Nat) (i' : Nat) (d' : Int) (k : Nat) (l l' : List Nat)
    (hi' : (if (536870911 : Int) < (i : Int) then (536870911 : Int) else (i : Int)) = (i' : Int)) (hd' : (if (15 : Int) < (if d < 0 then 0 else d) then (15 : Int) else (if d < 0 then 0 else d)) = d') (hk : dl (r && ((n : Int) == 0)) d' = (k : Int))
    (h1 : n = k → l' = l) (h2 : n ≠ k → l' ≠ l) :
    ((e == (e || decide ((2047 : Int) < (i : Int)))) && (r == (r && ((n : Int) == 0))) && ((i : Int) == (i' : Int)) && (d == d') && decide (l = l')) = validB e i r d n := by
  have hl : decide (l = l') = decide (n = k) := by
    by_cases h : n = k
    · rw [h1 h]; simp [h]
    · have := h2 h
      simp only [h, decide_false, decide_eq_false_iff_not]
      exact fun e => this e.symm
  rw [hl]
  unfold validB
  rw [Bool.eq_iff_iff]
  simp only [Bool.and_eq_true, beq_iff_eq, decide_eq_true_iff]
  by_cases hd : 0 ≤ d ∧ d ≤ 15
  · have hdd : d' = d := by
      rw [← hd']
      have a1 : ¬ d < 0 := by omega
      have a2 : ¬ (15 : Int) < d := by omega
      simp [a1, a2]
    rw [hdd] at hk
    rw [hdd]
    by_cases hi : (536870911 : Int) < (i : Int)
    · rw [if_pos hi] at hi'
      constructor
      · rintro ⟨⟨⟨⟨_, _⟩, h3⟩, _⟩, _⟩
        omega
      · rintro ⟨⟨⟨h3, _⟩, _⟩, _⟩
        exfalso
        cases e
        · simp at h3; omega
        · simp at h3; omega
    · rw [if_neg hi] at hi'
      cases e
      · cases r
        · have hkk : dl false d = (k : Int) := hk
          simp
          rw [hkk]
          omega
        · have hkk : dl ((n : Int) == 0) d = (k : Int) := by simpa using hk
          by_cases hn : n = 0
          · subst hn
            have hz : dl true d = 0 := by simp [dl]
            have hk0 : dl true d = (k : Int) := by simpa using hkk
            simp [hz]
            omega
          · have hz : dl true d = 0 := by simp [dl]
            simp [hz, hn]
      · cases r
        · have hkk : dl false d = (k : Int) := hk
          simp
          rw [hkk]
          omega
        · have hkk : dl ((n : Int) == 0) d = (k : Int) := by simpa using hk
          by_cases hn : n = 0
          · subst hn
            have hz : dl true d = 0 := by simp [dl]
            have hk0 : dl true d = (k : Int) := by simpa using hkk
            simp [hz]
            omega
          · have hz : dl true d = 0 := by simp [dl]
            simp [hz, hn]
  · constructor
    · rintro ⟨⟨_, h4⟩, _⟩
      exfalso
      rw [← hd'] at h4
      split at h4
      · omega
      · split at h4 <;> omega
    · rintro ⟨⟨⟨_, h4⟩, h5⟩, _⟩
      exact absurd ⟨h4, h5⟩ hd
theorem vf_be (w W W' : World) (e : Bool) (i : Nat) (r : Bool) (d : Int) (a : Option Addr) (n cap : Nat) (h : W.cell? ⟨w.heap.size, 0, none⟩ = some (.bool e) ∧ W.cell? ⟨w.heap.size, 1, none⟩ = some (.int .u32 (i : Int)) ∧ W.cell? ⟨w.heap.size, 2, none⟩ = some (.bool r) ∧ W.cell? ⟨w.heap.size, 3, none⟩ = some (.int .i64 d) ∧ W.cell? ⟨w.heap.size, 4, none⟩ = some (.slice a n cap) ∧ Below w.heap.size w W ∧ w.heap.size < W.heap.size) (hb : Below W.heap.size W W') : (fun W => W.cell? ⟨w.heap.size, 0, none⟩ = some (.bool e) ∧ W.cell? ⟨w.heap.size, 1, none⟩ = some (.int .u32 (i : Int)) ∧ W.cell? ⟨w.heap.size, 2, none⟩ = some (.bool r) ∧ W.cell? ⟨w.heap.size, 3, none⟩ = some (.int .i64 d) ∧ W.cell? ⟨w.heap.size, 4, none⟩ = some (.slice a n cap) ∧ Below w.heap.size w W ∧ w.heap.size < W.heap.size) W' := by
  obtain ⟨h0, h1, h2, h3, h4, hbl, hz⟩ := h
  exact ⟨(hb.cell (by exact hz)).trans h0, (hb.cell (by exact hz)).trans h1, (hb.cell (by exact hz)).trans h2, (hb.cell (by exact hz)).trans h3, (hb.cell (by exact hz)).trans h4, hbl.trans (hb.mono (by omega)), Nat.lt_of_lt_of_le hz hb.size⟩
theorem vf_0 (w : World) (e : Bool) (i : Nat) (r : Bool) (d : Int) (a : Option Addr) (n cap : Nat) : (fun W => W.cell? ⟨w.heap.size, 0, none⟩ = some (.bool e) ∧ W.cell? ⟨w.heap.size, 1, none⟩ = some (.int .u32 (i : Int)) ∧ W.cell? ⟨w.heap.size, 2, none⟩ = some (.bool r) ∧ W.cell? ⟨w.heap.size, 3, none⟩ = some (.int .i64 d) ∧ W.cell? ⟨w.heap.size, 4, none⟩ = some (.slice a n cap) ∧ Below w.heap.size w W ∧ w.heap.size < W.heap.size) (w.alloc (frC e i r d a n cap 31)).drew := by
  refine ⟨?_, ?_, ?_, ?_, ?_, ((Below.refl _ _).alloc (Nat.le_refl _) _).drew, by simp⟩ <;> go_simp
theorem vf_below {w W : World} {e : Bool} {i : Nat} {r : Bool} {d : Int} {a : Option Addr} {n cap : Nat} (h : W.cell? ⟨w.heap.size, 0, none⟩ = some (.bool e) ∧ W.cell? ⟨w.heap.size, 1, none⟩ = some (.int .u32 (i : Int)) ∧ W.cell? ⟨w.heap.size, 2, none⟩ = some (.bool r) ∧ W.cell? ⟨w.heap.size, 3, none⟩ = some (.int .i64 d) ∧ W.cell? ⟨w.heap.size, 4, none⟩ = some (.slice a n cap) ∧ Below w.heap.size w W ∧ w.heap.size < W.heap.size) : Below w.heap.size w W := h.2.2.2.2.2.1
set_option maxHeartbeats 2000000 in
set_option maxRecDepth 20000 in
theorem valid_any (w : World) (e : Bool) (i : Nat) (r : Bool) (d : Int) (a : Option Addr) (n cap : Nat) (l : List Nat) (h : isBytes w a n cap l) :
    Calls Tryd.prog 24 #[frV e i r d a n cap] w fun o w' => o = .returned (.bool (validB e i r d n)) ∧ Below w.heap.size w w' := by
  obtain ⟨i', hi'⟩ : ∃ i' : Nat, (if (536870911 : Int) < (i : Int) then (536870911 : Int) else (i : Int)) = (i' : Int) := by
    split
    · exact ⟨536870911, rfl⟩
    · exact ⟨i, rfl⟩
  obtain ⟨d', hd'⟩ : ∃ d' : Int, (if (15 : Int) < (if d < 0 then 0 else d) then (15 : Int) else (if d < 0 then 0 else d)) = d' := ⟨_, rfl⟩
  have hd0 : 0 ≤ d' := by rw [← hd']; split <;> (try split) <;> omega
  have hdb := dl_bounds (r && ((n : Int) == 0)) d' hd0
  obtain ⟨k, hk⟩ : ∃ k : Nat, dl (r && ((n : Int) == 0)) d' = (k : Int) := ⟨(dl (r && ((n : Int) == 0)) d').toNat, by omega⟩
  have hk8 : k ≤ 8 := by omega
  have HF : Hid (∀ W : World, isBytes W a n cap l → Calls Tryd.prog 40 #[frV e i r d a n cap] W fun o w' => ∃ a' n' cap' l', o = .returned (frV (e || decide ((2047 : Int) < (i : Int))) i' (r && ((n : Int) == 0)) d' a' n' cap') ∧ isBytes w' a' n' cap' l' ∧ Below W.heap.size W w' ∧ (n = k → l' = l) ∧ (n ≠ k → l' ≠ l)) :=
    fun W hW => fitted_any W e i r d a n cap l hW i' d' k hi' hd' hk hk8
  have HV : Hid (∀ l', (n = k → l' = l) → (n ≠ k → l' ≠ l) → ((e == (e || decide ((2047 : Int) < (i : Int)))) && (r == (r && ((n : Int) == 0))) && ((i : Int) == (i' : Int)) && (d == d') && decide (l = l')) = validB e i r d n) :=
    fun l' h1 h2 => valid_eq e i r d n i' d' k l l' hi' hd' hk h1 h2
  have HH : Hid (isBytes w a n cap l) := h
  clear h hi' hd' hk hk8 hdb hd0
  generalize (e || decide ((2047 : Int) < (i : Int))) = e1 at *
  generalize (r && ((n : Int) == 0)) = r1 at *
  go_enter Tryd.func24, Tryd.ntmps24
  go_wp2
  go_region_held3 (fun W => W.cell? ⟨w.heap.size, 0, none⟩ = some (.bool e) ∧ W.cell? ⟨w.heap.size, 1, none⟩ = some (.int .u32 (i : Int)) ∧ W.cell? ⟨w.heap.size, 2, none⟩ = some (.bool r) ∧ W.cell? ⟨w.heap.size, 3, none⟩ = some (.int .i64 d) ∧ W.cell? ⟨w.heap.size, 4, none⟩ = some (.slice a n cap) ∧ Below w.heap.size w W ∧ w.heap.size < W.heap.size) (first | exact vf_0 w e i r d a n cap | exact vf_be _ _ _ _ _ _ _ _ _ _ (by assumption) (by assumption) | assumption) (first | (go_at_call 40; refine (HF.out _ (HH.out.below (vf_below (by assumption)))).mono ?_; rintro o w1 ⟨a', n', cap', l', rfl, hby, hbel, hc1, hc2⟩; have HC : Hid ((n = k → l' = l) ∧ (n ≠ k → l' ≠ l)) := ⟨hc1, hc2⟩; clear hc1 hc2) | (go_at_call 39; refine (same_any _ _ _ _ _ _ _ _ l (HH.out.below (vf_below (by assumption))) _ _ _ _ _ _ _ l' hby).mono ?_; rw [HV.out l' HC.out.1 HC.out.2]; rintro o w2 ⟨rfl, hbel2⟩))
  rename_i hS
  have hbl := vf_below hS
  clear hS
  go_wp2
  go_ret
  exact ⟨rfl, hbl⟩
theorem szByteS_any (w : World) (a : Option Addr) (n cap : Nat) (m : Nat) (hn : n ≤ 9223372036854775807) (hm : m ≤ 1048576) :
    Calls Tryd.prog 19 #[.slice a n cap, .int .i64 m] w fun o w' => o = .returned (.int .i64 (if (n : Int) ≤ (m : Int) then (m : Int) - (n : Int) else -1)) ∧ w = w' := by
  by_cases h : (n : Int) ≤ (m : Int)
  · rw [if_pos h]
    go_enter Tryd.func19, Tryd.ntmps19
    go_wp2
    go_ret
    exact ⟨rfl, rfl⟩
  · rw [if_neg h]
    go_enter Tryd.func19, Tryd.ntmps19
    go_wp2
    go_ret
    exact ⟨rfl, rfl⟩
theorem szFrame_any (w : World) (e : Bool) (i : Nat) (r : Bool) (d : Int) (a : Option Addr) (n cap : Nat) (m : Nat) (hn : n ≤ 9223372036854775807) (hm : m ≤ 1048576) :
    Calls Tryd.prog 5 #[frV e i r d a n cap, .int .i64 m] w fun o w' => o = .returned (.int .i64 (if (n : Int) ≤ (m : Int) then (m : Int) - (n : Int) else -1)) ∧ w.alloc (frC e i r d a n cap 25) = w' := by
  by_cases h : (n : Int) ≤ (m : Int)
  · have HC : Hid (∀ W, Calls Tryd.prog 19 #[.slice a n cap, .int .i64 m] W fun o w' => o = .returned (.int .i64 ((m : Int) - (n : Int))) ∧ W = w') := by
      intro W; have := szByteS_any W a n cap m hn hm; rw [if_pos h] at this; exact this
    rw [if_pos h]
    go_enter Tryd.func5, Tryd.ntmps5
    go_wp2_with (first | (go_at_call 19; refine (HC.out _).mono ?_; rintro o w1 ⟨rfl, rfl⟩))
    go_ret
    exact ⟨rfl, rfl⟩
  · have HC : Hid (∀ W, Calls Tryd.prog 19 #[.slice a n cap, .int .i64 m] W fun o w' => o = .returned (.int .i64 (-1)) ∧ W = w') := by
      intro W; have := szByteS_any W a n cap m hn hm; rw [if_neg h] at this; exact this
    rw [if_neg h]
    go_enter Tryd.func5, Tryd.ntmps5
    go_wp2_with (first | (go_at_call 19; refine (HC.out _).mono ?_; rintro o w1 ⟨rfl, rfl⟩))
    go_ret
    exact ⟨rfl, rfl⟩
theorem bcell {W w1 : World} (hb : Below W.heap.size W w1) : (∀ b o, b < W.heap.size → w1.cell? ⟨b, o, none⟩ = W.cell? ⟨b, o, none⟩) ∧ (∀ b o, b < W.heap.size → w1.frozen? ⟨b, o, none⟩ = W.frozen? ⟨b, o, none⟩) :=
  ⟨fun b o h => hb.cell (p := ⟨b, o, none⟩) h, fun b o h => hb.frozen (p := ⟨b, o, none⟩) h⟩
theorem isBytes.setOther {w : World} {g n cap : Nat} {l : List Nat} (h : isBytes w (some ⟨g, 0, none⟩) n cap l) (b j : Nat) (v : Value) (hb : b ≠ g) : isBytes (w.setCell ⟨b, j, none⟩ v) (some ⟨g, 0, none⟩) n cap l := by
  refine ⟨h.len, h.cap, h.small, fun hl => ?_⟩
  obtain ⟨g', off, ha, hc⟩ := h.cells hl
  refine ⟨g', off, ha, fun t ht => ?_⟩
  cases ha
  rw [World.cell?_setCell_other _ _ _ _ (by intro hh; exact hb (congrArg Addr.block hh))]
  exact hc t ht
set_option maxHeartbeats 1000000 in
theorem eqByteS_same (w : World) (a1 a2 : Option Addr) (n1 c1 n2 c2 : Nat) (l : List Nat) (h1 : isBytes w a1 n1 c1 l) (h2 : isBytes w a2 n2 c2 l) (hn : n1 ≤ 1048576) :
    Calls Tryd.prog 27 #[.slice a1 n1 c1, .slice a2 n2 c2] w fun o w' => o = .returned (.bool true) ∧ ∃ q, w' = w.drewN q := by
  have e1 := h1.len
  have e2 := h2.len
  by_cases hl : l = []
  · subst hl
    have e1' : n1 = 0 := e1
    have e2' : n2 = 0 := e2
    subst e1' e2'
    clear e1 e2 h1 h2
    go_enter Tryd.func27, Tryd.ntmps27
    go_wp2
    go_loopw [5] (fun i wr => i = .int .i64 0 ∧ wr = w) (fun _ _ => 0)
    case atStart => exact ⟨rfl, rfl⟩
    case round =>
      obtain ⟨rfl, rfl⟩ := hrel
      go_wp2
      go_ret
      exact ⟨rfl, 0, rfl⟩
  · obtain ⟨g1, o1, rfl, k1⟩ := h1.cells hl
    obtain ⟨g2, o2, rfl, k2⟩ := h2.cells hl
    have hnn : n2 = n1 := by omega
    subst hnn
    have hn1 : n2 ≤ l.length := by omega
    clear e1 e2 h1 h2
    go_enter Tryd.func27, Tryd.ntmps27
    go_wp2
    go_loopw [5] (fun i wr => ∃ k : Nat, k ≤ n2 ∧ i = .int .i64 k ∧ ∃ q, wr = w.drewN q) (fun i _ => n2 - (intOf i).toNat)
    case atStart => exact ⟨0, Nat.zero_le _, rfl, 0, rfl⟩
    case round =>
      obtain ⟨k, hk, rfl, q, rfl⟩ := hrel
      by_cases hlt : k < n2
      · have c1 := k1 k (by omega)
        have c2 := k2 k (by omega)
        generalize l[k] = x at *
        go_wp2
        go_quiet (fail)
        go_wp2
        go_roundw
        case rel => exact ⟨k + 1, by omega, by go_num, _, rfl⟩
        case measure => simp [intOf]; omega
      · go_wp2
        go_ret
        exact ⟨rfl, _, rfl⟩
theorem below_q {B : Nat} (w : World) (q : Nat) : Below B w (w.drewN q) := below_drewN (Below.refl _ _) q
set_option maxHeartbeats 1000000 in
set_option maxRecDepth 20000 in
theorem eqFrame_same (w : World) (e : Bool) (i : Nat) (r : Bool) (d : Int) (a : Option Addr) (n cap : Nat) (l : List Nat) (h : isBytes w a n cap l) (a' : Option Addr) (n' cap' : Nat) (h' : isBytes w a' n' cap' l) (hn : n ≤ 1048576) :
    Calls Tryd.prog 10 #[frV e i r d a n cap, frV e i r d a' n' cap'] w fun o w' => o = .returned (.bool true) ∧ Below w.heap.size w w' := by
  have HH : Hid (isBytes w a n cap l) := h
  have HH' : Hid (isBytes w a' n' cap' l) := h'
  clear h h'
  have hE : (e != e) = false := by simp
  have hR : (r != r) = false := by simp
  have hD : (d != d) = false := by simp
  have hI : ((i : Int) != (i : Int)) = false := by simp
  have hbl : Below w.heap.size w ((w.alloc (frC e i r d a n cap 31)).alloc (frC e i r d a' n' cap' 31)) := ((Below.refl _ _).alloc (Nat.le_refl _) _).alloc (by simp) _
  have HB : Hid (Below w.heap.size w ((w.alloc (frC e i r d a n cap 31)).alloc (frC e i r d a' n' cap' 31))) := hbl
  clear hbl
  go_enter Tryd.func10, Tryd.ntmps10
  go_wp2_with (first | (go_at_call 27; refine (eqByteS_same _ _ _ _ _ _ _ l (HH.out.below HB.out) (HH'.out.below HB.out) hn).mono ?_; rintro o w1 ⟨rfl, q, rfl⟩))
  go_ret
  exact ⟨rfl, below_drewN HB.out q⟩
theorem isBytes.drew {W : World} {a : Option Addr} {n cap : Nat} {l : List Nat} (h : isBytes W a n cap l) : isBytes W.drew a n cap l := h.below (Below.refl _ _).drew
namespace M
/-- the number v as n letters, the highest first -/
def num (v : Nat) : Nat → List Nat
  | 0 => []
  | n + 1 => num (v / 2) n ++ [48 + v % 2]
theorem num_length (n v : Nat) : (num v n).length = n := by
  induction n generalizing v with
  | zero => rfl
  | succ n ih => simp [num, ih]
theorem num_isL (n v : Nat) : ∀ x ∈ num v n, isL x := by
  induction n generalizing v with
  | zero => intro x hx; cases hx
  | succ n ih =>
    intro x hx
    simp only [num, List.mem_append, List.mem_singleton] at hx
    rcases hx with hx | rfl
    · exact ih _ x hx
    · unfold isL; omega
theorem num_split (b v : Nat) : ∀ a, num v (a + b) = num (v / 2 ^ b) a ++ num v b := by
  induction b generalizing v with
  | zero => intro a; simp [num]
  | succ b ih =>
    intro a
    have e1 : a + (b + 1) = (a + b) + 1 := by omega
    have e2 : v / 2 ^ (b + 1) = v / 2 / 2 ^ b := by rw [Nat.pow_succ, Nat.mul_comm, Nat.div_div_eq_div_mul]
    rw [e1, num, ih, num, e2, List.append_assoc]
end M
theorem strN_append (l m : List Nat) : strN l ++ strN m = strN (l ++ m) := by
  unfold strN
  apply ByteArray.ext
  simp
theorem strN_size (l : List Nat) : (strN l).size = l.length := by
  unfold strN; simp [ByteArray.size]
set_option maxHeartbeats 400000 in
theorem num_any (n : Nat) : ∀ (v : Nat) (w : World), n ≤ 64 → v < 4611686018427387904 →
    Calls Tryd.prog 37 #[.int .i64 v, .int .i64 n] w fun o w' => o = .returned (.string (strN (M.num v n))) ∧ w = w' := by
  induction n with
  | zero =>
    intro v w _ hv
    go_enter Tryd.func37, Tryd.ntmps37
    go_wp2
    go_ret
    exact ⟨rfl, rfl⟩
  | succ n ih =>
    intro v w hn hv
    have IH : Hid (∀ (v : Nat) (w : World), n ≤ 64 → v < 4611686018427387904 → Calls Tryd.prog 37 #[.int .i64 v, .int .i64 n] w fun o w' => o = .returned (.string (strN (M.num v n))) ∧ w = w') := ih
    clear ih
    have hl : (strN (M.num (v / 2) n)).size ≤ 64 := by rw [strN_size, M.num_length]; omega
    by_cases hb : v % 2 = 1
    · have hb' : (((v : Int) % 2) == 1) = true := by simp; omega
      have HE : Hid (strN (M.num v (n + 1)) = strN (M.num (v / 2) n) ++ strN [49]) := by rw [strN_append, M.num, hb]; exact rfl
      clear hb
      go_enter Tryd.func37, Tryd.ntmps37
      go_wp2_with fail
      refine (IH.out (v / 2) _ (by omega) (by omega)).mono ?_
      rintro o w1 ⟨rfl, rfl⟩
      go_wp2
      go_ret
      exact ⟨ret_str HE.out.symm, rfl⟩
    · have hb' : (((v : Int) % 2) == 1) = false := by simp; omega
      have hb0 : v % 2 = 0 := by omega
      have HE : Hid (strN (M.num v (n + 1)) = strN (M.num (v / 2) n) ++ strN [48]) := by rw [strN_append, M.num, hb0]; exact rfl
      clear hb hb0
      go_enter Tryd.func37, Tryd.ntmps37
      go_wp2_with fail
      refine (IH.out (v / 2) _ (by omega) (by omega)).mono ?_
      rintro o w1 ⟨rfl, rfl⟩
      go_wp2
      go_ret
      exact ⟨ret_str HE.out.symm, rfl⟩
theorem flag_any (r : Bool) (w : World) : Calls Tryd.prog 47 #[.bool r] w fun o w' => o = .returned (.string (strN [48 + r.toNat])) ∧ w = w' := by
  cases r
  · go_enter Tryd.func47, Tryd.ntmps47
    go_wp2
    go_ret
    exact ⟨rfl, rfl⟩
  · go_enter Tryd.func47, Tryd.ntmps47
    go_wp2
    go_ret
    exact ⟨rfl, rfl⟩
/-- the letters of the arbitration field -/
def arbL (e : Bool) (i : Nat) (r : Bool) : List Nat :=
  if e = true then M.num (i / 2 ^ 18) 11 ++ [49, 49] ++ M.num i 18 ++ [48 + r.toNat] else M.num i 11 ++ [48 + r.toNat] ++ [48]
theorem num01 : M.num 0 1 = [48] := rfl
theorem frC_cells {W : World} {b : Nat} {e : Bool} {i : Nat} {r : Bool} {d : Int} {a : Option Addr} {n cap : Nat} (h : W.heap[b]? = some (frC e i r d a n cap 31)) :
    W.cell? ⟨b, 0, none⟩ = some (.bool e) ∧ W.cell? ⟨b, 1, none⟩ = some (.int .u32 (i : Int)) ∧ W.cell? ⟨b, 2, none⟩ = some (.bool r) ∧ W.cell? ⟨b, 3, none⟩ = some (.int .i64 d) ∧ W.cell? ⟨b, 4, none⟩ = some (.slice a n cap) := by
  refine ⟨?_, ?_, ?_, ?_, ?_⟩ <;> simp [World.cell?, h]
/-- the letters of the body -/
def bodyL (e : Bool) (i : Nat) (r : Bool) (d : Nat) (l : List Nat) : List Nat :=
  [48] ++ arbL e i r ++ M.num 0 (1 + e.toNat) ++ M.num d 4 ++ l.flatMap (fun x => M.num x 8)
theorem bodyL_length (e : Bool) (i : Nat) (r : Bool) (d : Nat) (l : List Nat) : (bodyL e i r d l).length = (if e = true then 39 else 19) + 8 * l.length := by
  have h8 : (l.flatMap (fun x => M.num x 8)).length = 8 * l.length := by
    induction l with
    | nil => rfl
    | cons a l ih => rw [List.flatMap_cons, List.length_append, ih, M.num_length, List.length_cons]; omega
  cases e <;> simp [bodyL, arbL, M.num_length, h8] <;> omega
theorem bodyL_isL (e : Bool) (i : Nat) (r : Bool) (d : Nat) (l : List Nat) : ∀ x ∈ bodyL e i r d l, M.isL x := by
  have hf : ∀ x, x = 48 + r.toNat → M.isL x := by intro x hx; subst hx; cases r; exact .inl rfl; exact .inr rfl
  have h0 : M.isL 48 := .inl rfl
  have h1 : M.isL 49 := .inr rfl
  intro x hx
  cases e
  · simp only [bodyL, arbL, List.mem_append, List.mem_flatMap, List.mem_singleton, Bool.false_eq_true, if_false] at hx
    rcases hx with (((rfl | (hx | hx) | hx) | hx) | hx) | ⟨y, _, hx⟩
    · exact h0
    · exact M.num_isL _ _ x hx
    · exact hf x hx
    · subst hx; exact h0
    · exact M.num_isL _ _ x hx
    · exact M.num_isL _ _ x hx
    · exact M.num_isL _ _ x hx
  · simp only [bodyL, arbL, List.mem_append, List.mem_flatMap, List.mem_cons, List.not_mem_nil, or_false, if_true] at hx
    rcases hx with (((rfl | (((hx | hx) | hx) | hx)) | hx) | hx) | ⟨y, _, hx⟩
    · exact h0
    · exact M.num_isL _ _ x hx
    · rcases hx with rfl | rfl <;> exact h1
    · exact M.num_isL _ _ x hx
    · exact hf x hx
    · exact M.num_isL _ _ x hx
    · exact M.num_isL _ _ x hx
    · exact M.num_isL _ _ x hx
theorem box_below {B : Nat} {W W' : World} {b : Nat} {o : Obj} (h : W.heap[b]? = some o) (hb : Below B W W') (hB : b < B) : W'.heap[b]? = some o := (hb.block b hB).trans h
/-- what Body answers -/
def bodyZ (e : Bool) (i : Nat) (r : Bool) (d : Int) (n : Nat) (l : List Nat) : ByteArray := if validB e i r d n = true then strN (bodyL e i r d.toNat l) else ⟨#[]⟩
theorem validB_true {e : Bool} {i : Nat} {r : Bool} {d : Int} {n : Nat} (h : validB e i r d n = true) : i < 536870912 ∧ (e = false → i < 2048) ∧ 0 ≤ d ∧ d ≤ 15 ∧ n ≤ 8 := by
  unfold validB at h
  simp only [Bool.and_eq_true, decide_eq_true_iff, beq_iff_eq] at h
  obtain ⟨⟨⟨h1, h2⟩, h3⟩, h4⟩ := h
  have h5 := dl_bounds r d h2
  refine ⟨?_, ?_, h2, h3, by omega⟩
  · cases e <;> simp at h1 <;> omega
  · intro he; subst he; simpa using h1
theorem flat_snoc (l : List Nat) (k : Nat) (h : k < l.length) (p : List Nat) : p ++ (l.take (k + 1)).flatMap (fun x => M.num x 8) = p ++ (l.take k).flatMap (fun x => M.num x 8) ++ M.num l[k] 8 := by
  rw [M.take_at l k h, List.flatMap_append, List.append_assoc]; simp
theorem flat_len (l : List Nat) : (l.flatMap (fun x => M.num x 8)).length = 8 * l.length := by
  induction l with
  | nil => rfl
  | cons a l ih => rw [List.flatMap_cons, List.length_append, ih, M.num_length, List.length_cons]; omega
theorem num_quiet (v n : Nat) (w : World) (hn : n ≤ 64) (hv : v < 4611686018427387904) : Calls Tryd.prog 37 #[.int .i64 v, .int .i64 n] w fun o w' => o = .returned (.string (strN (M.num v n))) ∧ w' = w :=
  (num_any n v w hn hv).mono fun _ _ h => ⟨h.1, h.2.symm⟩
theorem flag_quiet (r : Bool) (w : World) : Calls Tryd.prog 47 #[.bool r] w fun o w' => o = .returned (.string (strN [48 + r.toNat])) ∧ w' = w :=
  (flag_any r w).mono fun _ _ h => ⟨h.1, h.2.symm⟩
theorem strN_take (l : List Nat) (k : Nat) : (strN l).extract 0 k = strN (l.take k) := by
  unfold strN
  apply ByteArray.ext
  simp [ByteArray.data_extract]
theorem strN_drop (l : List Nat) (k m : Nat) (h : m = l.length) : (strN l).extract k m = strN (l.drop k) := by
  subst h
  unfold strN
  apply ByteArray.ext
  simp [ByteArray.data_extract]
  exact List.take_of_length_le (by simp)
theorem num_q4 (v : Nat) (w : World) (hv : v < 4611686018427387904) : Calls Tryd.prog 37 #[.int .i64 (v : Int), .int .i64 4] w fun o w' => o = .returned (.string (strN (M.num v 4))) ∧ w' = w := num_quiet v 4 w (by omega) hv
theorem num_q8 (v : Nat) (w : World) (hv : v < 4611686018427387904) : Calls Tryd.prog 37 #[.int .i64 (v : Int), .int .i64 8] w fun o w' => o = .returned (.string (strN (M.num v 8))) ∧ w' = w := num_quiet v 8 w (by omega) hv
theorem num_q11 (v : Nat) (w : World) (hv : v < 4611686018427387904) : Calls Tryd.prog 37 #[.int .i64 (v : Int), .int .i64 11] w fun o w' => o = .returned (.string (strN (M.num v 11))) ∧ w' = w := num_quiet v 11 w (by omega) hv
theorem num_e29 (v : Nat) (w : World) (hv : v < 4611686018427387904) : Calls Tryd.prog 37 #[.int .i64 (v : Int), .int .i64 29] w fun o w' => o = .returned (.string (strN (M.num v 29))) ∧ w = w' := num_any 29 v w (by omega) hv
theorem num02 : M.num 0 2 = [48, 48] := rfl
theorem num29_take (i : Nat) : (M.num i 29).take 11 = M.num (i / 2 ^ 18) 11 := by
  rw [show (29 : Nat) = 11 + 18 from rfl, M.num_split 18 i 11, List.take_append_of_le_length (by rw [M.num_length]; omega), List.take_of_length_le (by rw [M.num_length]; omega)]
theorem num29_drop (i : Nat) : (M.num i 29).drop 11 = M.num i 18 := by
  rw [show (29 : Nat) = 11 + 18 from rfl, M.num_split 18 i 11, List.drop_append_of_le_length (by rw [M.num_length]; omega), List.drop_eq_nil_of_le (by rw [M.num_length]; omega), List.nil_append]
theorem b48 : ({ data := #[48] } : ByteArray) = strN [48] := rfl
theorem b49 : ({ data := #[49] } : ByteArray) = strN [49] := rfl
theorem b4848 : ({ data := #[48, 48] } : ByteArray) = strN [48, 48] := rfl
set_option maxHeartbeats 1000000 in
set_option maxRecDepth 20000 in
theorem specBody_ok (w : World) (e : Bool) (i : Nat) (r : Bool) (dn : Nat) (a : Option Addr) (n cap : Nat) (l : List Nat) (h : isBytes w a n cap l) (hv : validB e i r (dn : Int) n = true) :
    Calls Tryd.prog 35 #[frV e i r (dn : Int) a n cap] w fun o w' => o = .returned (.string (strN (bodyL e i r dn l))) ∧ Below w.heap.size w w' := by
  obtain ⟨hi, hi2, _, hd15, hn8⟩ := validB_true hv
  have HV : Hid (validB e i r (dn : Int) n = true) := hv
  have HH : Hid (isBytes w a n cap l) := h
  have hW : Below w.heap.size w (w.alloc (frC e i r (dn : Int) a n cap 31)) := (Below.refl _ _).alloc (Nat.le_refl _) _
  have HW : Hid (Below w.heap.size w (w.alloc (frC e i r (dn : Int) a n cap 31)) ∧ (w.alloc (frC e i r (dn : Int) a n cap 31)).heap[w.heap.size]? = some (frC e i r (dn : Int) a n cap 31)) := ⟨hW, heap_alloc_new w _⟩
  clear hv h hW hi2
  cases e
  · go_enter Tryd.func35, Tryd.ntmps35
    go_wp2_with fail
    refine (specValid_any _ _ i r (dn : Int) a n cap).mono ?_
    rw [HV.out]
    rintro o w1 ⟨rfl, hb1⟩
    have hB1 : Below w.heap.size w w1 := HW.out.1.trans (hb1.mono (by simp))
    have hx1 := box_below HW.out.2 hb1 (by simp)
    have hc1 := frC_cells hx1
    have HY1 : Hid (isBytes w1 a n cap l) := HH.out.below hB1
    clear hb1 hx1
    have hs1 : (strN (M.num i 11)).size ≤ 11 := by rw [strN_size, M.num_length]; omega
    have hs2 : (strN [48 + r.toNat]).size ≤ 1 := by rw [strN_size]; simp
    go_wp2_with fail
    go_quiet (first | (go_at_call 37; exact Calls.quiet_of_same (num_q11 i _ (by omega))) | (go_at_call 47; exact Calls.quiet_of_same (flag_quiet r _)))
    go_wp2_with fail
    have hEq : ({ data := #[48] } ++ strN (M.num i 11) ++ strN [48 + r.toNat] ++ { data := #[48] } ++ { data := #[48] } : ByteArray) = strN ([48] ++ M.num i 11 ++ [48 + r.toNat] ++ [48] ++ [48]) := by
      rw [b48]
      simp only [strN_append]
    rw [hEq]
    have HBD : Hid (bodyL false i r dn l = [48] ++ M.num i 11 ++ [48 + r.toNat] ++ [48] ++ [48] ++ M.num dn 4 ++ l.flatMap (fun x => M.num x 8)) := by
      simp [Hid, bodyL, arbL, num01]
    have hpl : ([48] ++ M.num i 11 ++ [48 + r.toNat] ++ [48] ++ [48] ++ M.num dn 4).length ≤ 100 := by simp [M.num_length]
    have hs3 : (strN ([48] ++ M.num i 11 ++ [48 + r.toNat] ++ [48] ++ [48])).size ≤ 100 := by rw [strN_size]; simp [M.num_length]
    have hs4 : (strN (M.num dn 4)).size ≤ 4 := by rw [strN_size, M.num_length]; omega
    have HAP : Hid (strN ([48] ++ M.num i 11 ++ [48 + r.toNat] ++ [48] ++ [48]) ++ strN (M.num dn 4) = strN ([48] ++ M.num i 11 ++ [48 + r.toNat] ++ [48] ++ [48] ++ M.num dn 4)) := strN_append _ _
    clear hEq hs1 hs2
    generalize [48] ++ M.num i 11 ++ [48 + r.toNat] ++ [48] ++ [48] ++ M.num dn 4 = pre at *
    generalize strN ([48] ++ M.num i 11 ++ [48 + r.toNat] ++ [48] ++ [48]) = sp at *
    refine (num_q4 dn _ (by omega)).mono ?_
    rintro o w2 ⟨rfl, rfl⟩
    go_wp2_with fail
    rw [HAP.out]
    by_cases hl : l = []
    · have hn0 : n = 0 := by have := HY1.out.len; rw [hl] at this; simpa using this
      subst hn0 hl
      go_loopw [3, 5] (fun s idx wr => idx = .int .i64 0 ∧ s = .string (strN pre) ∧ wr = w1.drewN nq) (fun _ _ _ => 0)
      case atStart => exact ⟨rfl, rfl, rfl⟩
      case round =>
        obtain ⟨rfl, rfl, rfl⟩ := hrel
        go_wp2
        go_ret
        exact ⟨ret_str (by rw [HBD.out]; simp), below_drewN hB1 nq⟩
    · obtain ⟨g, off, rfl, hcl⟩ := HY1.out.cells hl
      have hlen := HY1.out.len
      have hn1 : n ≤ l.length := by omega
      have hn2 : l.length ≤ n := by omega
      have HSM : Hid (∀ x ∈ l, x < 256) := HY1.out.small
      clear hlen
      go_loopw [3, 5] (fun s idx wr => ∃ k : Nat, k ≤ n ∧ idx = .int .i64 k ∧ s = .string (strN (pre ++ (l.take k).flatMap (fun x => M.num x 8))) ∧ wr = w1.drewN nq) (fun _ idx _ => n - (intOf idx).toNat)
      case atStart => exact ⟨0, Nat.zero_le _, rfl, by simp, rfl⟩
      case round =>
        obtain ⟨k, hk, rfl, rfl, rfl⟩ := hrel
        by_cases hlt : k < n
        · have hc := hcl k (by omega)
          have hx256 := HSM.out l[k] (List.getElem_mem _)
          have HF : Hid (strN (pre ++ (l.take k).flatMap (fun x => M.num x 8)) ++ strN (M.num l[k] 8) = strN (pre ++ (l.take (k + 1)).flatMap (fun x => M.num x 8))) := by rw [flat_snoc l k (by omega) pre, strN_append]; exact rfl
          have hpl2 : (strN (pre ++ (l.take k).flatMap (fun x => M.num x 8))).size ≤ 1000 := by rw [strN_size, List.length_append, flat_len, List.length_take]; omega
          generalize l[k] = x at *
          have hs8 : (strN (M.num x 8)).size ≤ 8 := by rw [strN_size, M.num_length]; omega
          generalize strN (pre ++ (l.take k).flatMap (fun x => M.num x 8)) = sp at *
          go_wp2_with (first | (go_at_call 37; refine (num_q8 x _ (by omega)).mono ?_; rintro o w7 ⟨rfl, rfl⟩))
          go_roundw
          case rel => exact ⟨k + 1, by omega, by go_num, by rw [← HF.out], by first | rfl | trivial⟩
          case measure => simp [intOf]; omega
        · have hke : l.take k = l := List.take_of_length_le (by omega)
          have HKE : Hid (l.take k = l) := hke
          clear hke
          go_wp2
          go_ret
          exact ⟨ret_str (by rw [HBD.out, HKE.out]), below_drewN hB1 nq⟩
  · go_enter Tryd.func35, Tryd.ntmps35
    go_wp2_with fail
    refine (specValid_any _ _ i r (dn : Int) a n cap).mono ?_
    rw [HV.out]
    rintro o w1 ⟨rfl, hb1⟩
    have hB1 : Below w.heap.size w w1 := HW.out.1.trans (hb1.mono (by simp))
    have hx1 := box_below HW.out.2 hb1 (by simp)
    have hc1 := frC_cells hx1
    have HY1 : Hid (isBytes w1 a n cap l) := HH.out.below hB1
    clear hb1 hx1
    have hs29 : (strN (M.num i 29)).size = 29 := by rw [strN_size, M.num_length]
    have hs2 : (strN [48 + r.toNat]).size ≤ 1 := by rw [strN_size]; simp
    go_wp2_with (first | (go_at_call 37; refine (num_e29 i _ (by omega)).mono ?_; rintro o w7 ⟨rfl, rfl⟩))
    go_quiet (first | (go_at_call 47; exact Calls.quiet_of_same (flag_quiet r _)))
    go_wp2_with fail
    have hEq : ({ data := #[48] } ++ (strN (M.num i 29)).extract 0 11 ++ { data := #[49] } ++ { data := #[49] } ++ (strN (M.num i 29)).extract 11 29 ++ strN [48 + r.toNat] ++ { data := #[48, 48] } : ByteArray) = strN ([48] ++ M.num (i / 2 ^ 18) 11 ++ [49] ++ [49] ++ M.num i 18 ++ [48 + r.toNat] ++ [48, 48]) := by
      rw [b48, b49, b4848, strN_take, strN_drop _ 11 29 (by rw [M.num_length]), num29_take, num29_drop]
      simp only [strN_append]
    rw [hEq]
    have HBD : Hid (bodyL true i r dn l = [48] ++ M.num (i / 2 ^ 18) 11 ++ [49] ++ [49] ++ M.num i 18 ++ [48 + r.toNat] ++ [48, 48] ++ M.num dn 4 ++ l.flatMap (fun x => M.num x 8)) := by
      simp [Hid, bodyL, arbL, num02]
    have hpl : ([48] ++ M.num (i / 2 ^ 18) 11 ++ [49] ++ [49] ++ M.num i 18 ++ [48 + r.toNat] ++ [48, 48] ++ M.num dn 4).length ≤ 100 := by simp [M.num_length]
    have hs3 : (strN ([48] ++ M.num (i / 2 ^ 18) 11 ++ [49] ++ [49] ++ M.num i 18 ++ [48 + r.toNat] ++ [48, 48])).size ≤ 100 := by rw [strN_size]; simp [M.num_length]
    have hs4 : (strN (M.num dn 4)).size ≤ 4 := by rw [strN_size, M.num_length]; omega
    have HAP : Hid (strN ([48] ++ M.num (i / 2 ^ 18) 11 ++ [49] ++ [49] ++ M.num i 18 ++ [48 + r.toNat] ++ [48, 48]) ++ strN (M.num dn 4) = strN ([48] ++ M.num (i / 2 ^ 18) 11 ++ [49] ++ [49] ++ M.num i 18 ++ [48 + r.toNat] ++ [48, 48] ++ M.num dn 4)) := strN_append _ _
    clear hEq hs29 hs2
    generalize [48] ++ M.num (i / 2 ^ 18) 11 ++ [49] ++ [49] ++ M.num i 18 ++ [48 + r.toNat] ++ [48, 48] ++ M.num dn 4 = pre at *
    generalize strN ([48] ++ M.num (i / 2 ^ 18) 11 ++ [49] ++ [49] ++ M.num i 18 ++ [48 + r.toNat] ++ [48, 48]) = sp at *
    refine (num_q4 dn _ (by omega)).mono ?_
    rintro o w2 ⟨rfl, rfl⟩
    go_wp2_with fail
    rw [HAP.out]
    by_cases hl : l = []
    · have hn0 : n = 0 := by have := HY1.out.len; rw [hl] at this; simpa using this
      subst hn0 hl
      go_loopw [3, 5] (fun s idx wr => idx = .int .i64 0 ∧ s = .string (strN pre) ∧ wr = w1.drewN nq) (fun _ _ _ => 0)
      case atStart => exact ⟨rfl, rfl, rfl⟩
      case round =>
        obtain ⟨rfl, rfl, rfl⟩ := hrel
        go_wp2
        go_ret
        exact ⟨ret_str (by rw [HBD.out]; simp), below_drewN hB1 nq⟩
    · obtain ⟨g, off, rfl, hcl⟩ := HY1.out.cells hl
      have hlen := HY1.out.len
      have hn1 : n ≤ l.length := by omega
      have hn2 : l.length ≤ n := by omega
      have HSM : Hid (∀ x ∈ l, x < 256) := HY1.out.small
      clear hlen
      go_loopw [3, 5] (fun s idx wr => ∃ k : Nat, k ≤ n ∧ idx = .int .i64 k ∧ s = .string (strN (pre ++ (l.take k).flatMap (fun x => M.num x 8))) ∧ wr = w1.drewN nq) (fun _ idx _ => n - (intOf idx).toNat)
      case atStart => exact ⟨0, Nat.zero_le _, rfl, by simp, rfl⟩
      case round =>
        obtain ⟨k, hk, rfl, rfl, rfl⟩ := hrel
        by_cases hlt : k < n
        · have hc := hcl k (by omega)
          have hx256 := HSM.out l[k] (List.getElem_mem _)
          have HF : Hid (strN (pre ++ (l.take k).flatMap (fun x => M.num x 8)) ++ strN (M.num l[k] 8) = strN (pre ++ (l.take (k + 1)).flatMap (fun x => M.num x 8))) := by rw [flat_snoc l k (by omega) pre, strN_append]; exact rfl
          have hpl2 : (strN (pre ++ (l.take k).flatMap (fun x => M.num x 8))).size ≤ 1000 := by rw [strN_size, List.length_append, flat_len, List.length_take]; omega
          generalize l[k] = x at *
          have hs8 : (strN (M.num x 8)).size ≤ 8 := by rw [strN_size, M.num_length]; omega
          generalize strN (pre ++ (l.take k).flatMap (fun x => M.num x 8)) = sp at *
          go_wp2_with (first | (go_at_call 37; refine (num_q8 x _ (by omega)).mono ?_; rintro o w7 ⟨rfl, rfl⟩))
          go_roundw
          case rel => exact ⟨k + 1, by omega, by go_num, by rw [← HF.out], by first | rfl | trivial⟩
          case measure => simp [intOf]; omega
        · have hke : l.take k = l := List.take_of_length_le (by omega)
          have HKE : Hid (l.take k = l) := hke
          clear hke
          go_wp2
          go_ret
          exact ⟨ret_str (by rw [HBD.out, HKE.out]), below_drewN hB1 nq⟩
set_option maxHeartbeats 1000000 in
theorem specBody_any (w : World) (e : Bool) (i : Nat) (r : Bool) (d : Int) (a : Option Addr) (n cap : Nat) (l : List Nat) (h : isBytes w a n cap l) :
    Calls Tryd.prog 35 #[frV e i r d a n cap] w fun o w' => o = .returned (.string (bodyZ e i r d n l)) ∧ Below w.heap.size w w' := by
  by_cases hv : validB e i r d n = true
  · obtain ⟨_, _, hd0, _, _⟩ := validB_true hv
    obtain ⟨dn, rfl⟩ := Int.eq_ofNat_of_zero_le hd0
    refine (specBody_ok w e i r dn a n cap l h hv).mono ?_
    rintro o w' ⟨rfl, hb⟩
    exact ⟨ret_str (by simp [bodyZ, hv]), hb⟩
  · have hv' : validB e i r d n = false := by simpa using hv
    have HZ : Hid (bodyZ e i r d n l = ⟨#[]⟩) := by simp [bodyZ, hv', Hid]
    have HV : Hid (validB e i r d n = false) := hv'
    clear hv hv' h
    go_enter Tryd.func35, Tryd.ntmps35
    go_wp2_with (first | (go_at_call 20; refine (specValid_any _ e i r d a n cap).mono ?_; rw [HV.out]; rintro o w1 ⟨rfl, hb1⟩))
    go_ret
    exact ⟨ret_str HZ.out.symm, ((Below.refl w.heap.size w).alloc (Nat.le_refl _) _).trans (hb1.mono (by simp))⟩
end Go.Proofs.YtpknchjjfiiaeaaDoor.J
