import Derived.Test.YtpknchjjfiiaeaaGreatDoorV06
import Derived.Test.YtpknchjjfiiaeaaGreatDoorV07
namespace Go.Proofs.YtpknchjjfiiaeaaGreatDoor.J
open Go.RowKit
theorem same_any (w : World) (e : Bool) (i : Nat) (r : Bool) (d : Int) (a : Option Addr) (n cap : Nat) (l : List Nat) (h : isBytes w a n cap l)
    (e' : Bool) (i' : Nat) (r' : Bool) (d' : Int) (a' : Option Addr) (n' cap' : Nat) (l' : List Nat) (h' : isBytes w a' n' cap' l') :
    Calls Tryz.prog 63 #[frV e i r d a n cap, frV e' i' r' d' a' n' cap'] w fun o w' => o = .returned (.bool ((e == e') && (r == r') && ((i : Int) == (i' : Int)) && (d == d') && decide (l = l'))) ∧ Below w.heap.size w w' := by
  cases hh : ((e == e') && (r == r'))
  · refine (same_A w e i r d a n cap e' i' r' d' a' n' cap' hh).mono ?_
    rintro o w' ⟨rfl, hb⟩
    exact ⟨rfl, hb⟩
  · cases hi : ((i : Int) == (i' : Int))
    · refine (same_B w e i r d a n cap e' i' r' d' a' n' cap' hh hi).mono ?_
      rintro o w' ⟨rfl, hb⟩
      exact ⟨rfl, hb⟩
    · cases hd : (d == d')
      · refine (same_C w e i r d a n cap e' i' r' d' a' n' cap' hh hi hd).mono ?_
        rintro o w' ⟨rfl, hb⟩
        exact ⟨rfl, hb⟩
      · have e1 : e = e' := by simp at hh; exact hh.1
        have e2 : r = r' := by simp at hh; exact hh.2
        have e3 : i = i' := by simp at hi; omega
        have e4 : d = d' := by simpa using hd
        subst e1 e2 e3 e4
        refine (same_D w e i r d a n cap l h a' n' cap' l' h').mono ?_
        rintro o w' ⟨rfl, hb⟩
        exact ⟨by simp, hb⟩
theorem valid_eq (e : Bool) (i : Nat) (r : Bool) (d : Int) (n : Nat) (i' : Nat) (d' : Int) (k : Nat) (l l' : List Nat)
    (hi' : (if (536870911 : Int) < (i : Int) then (536870911 : Int) else (i : Int)) = (i' : Int)) (hd' : (if (15 : Int) < (if d < 0 then 0 else d) then (15 : Int) else (if d < 0 then 0 else d)) = d') (hk : dl (r && ((n : Int) == 0)) d' = (k : Int))
    (h1 : n = k → l' = l) (h2 : n ≠ k → l' ≠ l) :
    ((e == (e || decide ((2047 : Int) < (i : Int)))) && (r == (r && ((n : Int) == 0))) && ((i : Int) == (i' : Int)) && (d == d') && decide (l = l')) = validB e i r d n := by
  have hl : decide (l = l') = decide (n = k) := by
    by_cases h : n = k
    · rw [h1 h]; simp [h]
    · have := h2 h
      simp only [h, decide_false, decide_eq_false_iff_not]
      exact fun e => this e.symm
  rw [hl]
  unfold validB
  rw [Bool.eq_iff_iff]
  simp only [Bool.and_eq_true, beq_iff_eq, decide_eq_true_iff]
  by_cases hd : 0 ≤ d ∧ d ≤ 15
  · have hdd : d' = d := by
      rw [← hd']
      have a1 : ¬ d < 0 := by omega
      have a2 : ¬ (15 : Int) < d := by omega
      simp [a1, a2]
    rw [hdd] at hk
    rw [hdd]
    by_cases hi : (536870911 : Int) < (i : Int)
    · rw [if_pos hi] at hi'
      constructor
      · rintro ⟨⟨⟨⟨_, _⟩, h3⟩, _⟩, _⟩
        omega
      · rintro ⟨⟨⟨h3, _⟩, _⟩, _⟩
        exfalso
        cases e
        · simp at h3; omega
        · simp at h3; omega
    · rw [if_neg hi] at hi'
      cases e
      · cases r
        · have hkk : dl false d = (k : Int) := hk
          simp
          rw [hkk]
          omega
        · have hkk : dl ((n : Int) == 0) d = (k : Int) := by simpa using hk
          by_cases hn : n = 0
          · subst hn
            have hz : dl true d = 0 := by simp [dl]
            have hk0 : dl true d = (k : Int) := by simpa using hkk
            simp [hz]
            omega
          · have hz : dl true d = 0 := by simp [dl]
            simp [hz, hn]
      · cases r
        · have hkk : dl false d = (k : Int) := hk
          simp
          rw [hkk]
          omega
        · have hkk : dl ((n : Int) == 0) d = (k : Int) := by simpa using hk
          by_cases hn : n = 0
          · subst hn
            have hz : dl true d = 0 := by simp [dl]
            have hk0 : dl true d = (k : Int) := by simpa using hkk
            simp [hz]
            omega
          · have hz : dl true d = 0 := by simp [dl]
            simp [hz, hn]
  · constructor
    · rintro ⟨⟨_, h4⟩, _⟩
      exfalso
      rw [← hd'] at h4
      split at h4
      · omega
      · split at h4 <;> omega
    · rintro ⟨⟨⟨_, h4⟩, h5⟩, _⟩
      exact absurd ⟨h4, h5⟩ hd
theorem vf_be (w W W' : World) (e : Bool) (i : Nat) (r : Bool) (d : Int) (a : Option Addr) (n cap : Nat) (h : W.cell? ⟨w.heap.size, 0, none⟩ = some (.bool e) ∧ W.cell? ⟨w.heap.size, 1, none⟩ = some (.int .u32 (i : Int)) ∧ W.cell? ⟨w.heap.size, 2, none⟩ = some (.bool r) ∧ W.cell? ⟨w.heap.size, 3, none⟩ = some (.int .i64 d) ∧ W.cell? ⟨w.heap.size, 4, none⟩ = some (.slice a n cap) ∧ Below w.heap.size w W ∧ w.heap.size < W.heap.size) (hb : Below W.heap.size W W') : (fun W => W.cell? ⟨w.heap.size, 0, none⟩ = some (.bool e) ∧ W.cell? ⟨w.heap.size, 1, none⟩ = some (.int .u32 (i : Int)) ∧ W.cell? ⟨w.heap.size, 2, none⟩ = some (.bool r) ∧ W.cell? ⟨w.heap.size, 3, none⟩ = some (.int .i64 d) ∧ W.cell? ⟨w.heap.size, 4, none⟩ = some (.slice a n cap) ∧ Below w.heap.size w W ∧ w.heap.size < W.heap.size) W' := by
  obtain ⟨h0, h1, h2, h3, h4, hbl, hz⟩ := h
  exact ⟨(hb.cell (by exact hz)).trans h0, (hb.cell (by exact hz)).trans h1, (hb.cell (by exact hz)).trans h2, (hb.cell (by exact hz)).trans h3, (hb.cell (by exact hz)).trans h4, hbl.trans (hb.mono (by omega)), Nat.lt_of_lt_of_le hz hb.size⟩
theorem vf_0 (w : World) (e : Bool) (i : Nat) (r : Bool) (d : Int) (a : Option Addr) (n cap : Nat) : (fun W => W.cell? ⟨w.heap.size, 0, none⟩ = some (.bool e) ∧ W.cell? ⟨w.heap.size, 1, none⟩ = some (.int .u32 (i : Int)) ∧ W.cell? ⟨w.heap.size, 2, none⟩ = some (.bool r) ∧ W.cell? ⟨w.heap.size, 3, none⟩ = some (.int .i64 d) ∧ W.cell? ⟨w.heap.size, 4, none⟩ = some (.slice a n cap) ∧ Below w.heap.size w W ∧ w.heap.size < W.heap.size) (w.alloc (frC e i r d a n cap 33)).drew := by
  refine ⟨?_, ?_, ?_, ?_, ?_, ((Below.refl _ _).alloc (Nat.le_refl _) _).drew, by simp⟩ <;> go_simp
theorem vf_below {w W : World} {e : Bool} {i : Nat} {r : Bool} {d : Int} {a : Option Addr} {n cap : Nat} (h : W.cell? ⟨w.heap.size, 0, none⟩ = some (.bool e) ∧ W.cell? ⟨w.heap.size, 1, none⟩ = some (.int .u32 (i : Int)) ∧ W.cell? ⟨w.heap.size, 2, none⟩ = some (.bool r) ∧ W.cell? ⟨w.heap.size, 3, none⟩ = some (.int .i64 d) ∧ W.cell? ⟨w.heap.size, 4, none⟩ = some (.slice a n cap) ∧ Below w.heap.size w W ∧ w.heap.size < W.heap.size) : Below w.heap.size w W := h.2.2.2.2.2.1
set_option maxHeartbeats 2000000 in
set_option maxRecDepth 20000 in
theorem valid_any (w : World) (e : Bool) (i : Nat) (r : Bool) (d : Int) (a : Option Addr) (n cap : Nat) (l : List Nat) (h : isBytes w a n cap l) :
    Calls Tryz.prog 40 #[frV e i r d a n cap] w fun o w' => o = .returned (.bool (validB e i r d n)) ∧ Below w.heap.size w w' := by
  obtain ⟨i', hi'⟩ : ∃ i' : Nat, (if (536870911 : Int) < (i : Int) then (536870911 : Int) else (i : Int)) = (i' : Int) := by
    split
    · exact ⟨536870911, rfl⟩
    · exact ⟨i, rfl⟩
  obtain ⟨d', hd'⟩ : ∃ d' : Int, (if (15 : Int) < (if d < 0 then 0 else d) then (15 : Int) else (if d < 0 then 0 else d)) = d' := ⟨_, rfl⟩
  have hd0 : 0 ≤ d' := by rw [← hd']; split <;> (try split) <;> omega
  have hdb := dl_bounds (r && ((n : Int) == 0)) d' hd0
  obtain ⟨k, hk⟩ : ∃ k : Nat, dl (r && ((n : Int) == 0)) d' = (k : Int) := ⟨(dl (r && ((n : Int) == 0)) d').toNat, by omega⟩
  have hk8 : k ≤ 8 := by omega
  have HF : Hid (∀ W : World, isBytes W a n cap l → Calls Tryz.prog 64 #[frV e i r d a n cap] W fun o w' => ∃ a' n' cap' l', o = .returned (frV (e || decide ((2047 : Int) < (i : Int))) i' (r && ((n : Int) == 0)) d' a' n' cap') ∧ isBytes w' a' n' cap' l' ∧ Below W.heap.size W w' ∧ (n = k → l' = l) ∧ (n ≠ k → l' ≠ l)) :=
    fun W hW => fitted_any W e i r d a n cap l hW i' d' k hi' hd' hk hk8
  have HV : Hid (∀ l', (n = k → l' = l) → (n ≠ k → l' ≠ l) → ((e == (e || decide ((2047 : Int) < (i : Int)))) && (r == (r && ((n : Int) == 0))) && ((i : Int) == (i' : Int)) && (d == d') && decide (l = l')) = validB e i r d n) :=
    fun l' h1 h2 => valid_eq e i r d n i' d' k l l' hi' hd' hk h1 h2
  have HH : Hid (isBytes w a n cap l) := h
  clear h hi' hd' hk hk8 hdb hd0
  generalize (e || decide ((2047 : Int) < (i : Int))) = e1 at *
  generalize (r && ((n : Int) == 0)) = r1 at *
  go_enter Tryz.func40, Tryz.ntmps40
  go_wp2
  go_region_held3 (fun W => W.cell? ⟨w.heap.size, 0, none⟩ = some (.bool e) ∧ W.cell? ⟨w.heap.size, 1, none⟩ = some (.int .u32 (i : Int)) ∧ W.cell? ⟨w.heap.size, 2, none⟩ = some (.bool r) ∧ W.cell? ⟨w.heap.size, 3, none⟩ = some (.int .i64 d) ∧ W.cell? ⟨w.heap.size, 4, none⟩ = some (.slice a n cap) ∧ Below w.heap.size w W ∧ w.heap.size < W.heap.size) (first | exact vf_0 w e i r d a n cap | exact vf_be _ _ _ _ _ _ _ _ _ _ (by assumption) (by assumption) | assumption) (first | (go_at_call 64; refine (HF.out _ (HH.out.below (vf_below (by assumption)))).mono ?_; rintro o w1 ⟨a', n', cap', l', rfl, hby, hbel, hc1, hc2⟩; have HC : Hid ((n = k → l' = l) ∧ (n ≠ k → l' ≠ l)) := ⟨hc1, hc2⟩; clear hc1 hc2) | (go_at_call 63; refine (same_any _ _ _ _ _ _ _ _ l (HH.out.below (vf_below (by assumption))) _ _ _ _ _ _ _ l' hby).mono ?_; rw [HV.out l' HC.out.1 HC.out.2]; rintro o w2 ⟨rfl, hbel2⟩))
  rename_i hS
  have hbl := vf_below hS
  clear hS
  go_wp2
  go_ret
  exact ⟨rfl, hbl⟩
theorem isBytes.setOther {w : World} {g n cap : Nat} {l : List Nat} (h : isBytes w (some ⟨g, 0, none⟩) n cap l) (b j : Nat) (v : Value) (hb : b ≠ g) : isBytes (w.setCell ⟨b, j, none⟩ v) (some ⟨g, 0, none⟩) n cap l := by
  refine ⟨h.len, h.cap, h.small, fun hl => ?_⟩
  obtain ⟨g', off, ha, hc⟩ := h.cells hl
  refine ⟨g', off, ha, fun t ht => ?_⟩
  cases ha
  rw [World.cell?_setCell_other _ _ _ _ (by intro hh; exact hb (congrArg Addr.block hh))]
  exact hc t ht
theorem below_q {B : Nat} (w : World) (q : Nat) : Below B w (w.drewN q) := below_drewN (Below.refl _ _) q
theorem isBytes.drew {W : World} {a : Option Addr} {n cap : Nat} {l : List Nat} (h : isBytes W a n cap l) : isBytes W.drew a n cap l := h.below (Below.refl _ _).drew
namespace M
/-- the number v as n letters, the highest first -/
def num (v : Nat) : Nat → List Nat
  | 0 => []
  | n + 1 => num (v / 2) n ++ [48 + v % 2]
theorem num_length (n v : Nat) : (num v n).length = n := by
  induction n generalizing v with
  | zero => rfl
  | succ n ih => simp [num, ih]
theorem num_isL (n v : Nat) : ∀ x ∈ num v n, isL x := by
  induction n generalizing v with
  | zero => intro x hx; cases hx
  | succ n ih =>
    intro x hx
    simp only [num, List.mem_append, List.mem_singleton] at hx
    rcases hx with hx | rfl
    · exact ih _ x hx
    · unfold isL; omega
theorem num_split (b v : Nat) : ∀ a, num v (a + b) = num (v / 2 ^ b) a ++ num v b := by
  induction b generalizing v with
  | zero => intro a; simp [num]
  | succ b ih =>
    intro a
    have e1 : a + (b + 1) = (a + b) + 1 := by omega
    have e2 : v / 2 ^ (b + 1) = v / 2 / 2 ^ b := by rw [Nat.pow_succ, Nat.mul_comm, Nat.div_div_eq_div_mul]
    rw [e1, num, ih, num, e2, List.append_assoc]
end M
theorem strN_append (l m : List Nat) : strN l ++ strN m = strN (l ++ m) := by
  unfold strN
  apply ByteArray.ext
  simp
theorem strN_size (l : List Nat) : (strN l).size = l.length := by
  unfold strN; simp [ByteArray.size]
set_option maxHeartbeats 400000 in
theorem num_any (n : Nat) : ∀ (v : Nat) (w : World), n ≤ 64 → v < 4611686018427387904 →
    Calls Tryz.prog 46 #[.int .i64 v, .int .i64 n] w fun o w' => o = .returned (.string (strN (M.num v n))) ∧ w = w' := by
  induction n with
  | zero =>
    intro v w _ hv
    go_enter Tryz.func46, Tryz.ntmps46
    go_wp2
    go_ret
    exact ⟨rfl, rfl⟩
  | succ n ih =>
    intro v w hn hv
    have IH : Hid (∀ (v : Nat) (w : World), n ≤ 64 → v < 4611686018427387904 → Calls Tryz.prog 46 #[.int .i64 v, .int .i64 n] w fun o w' => o = .returned (.string (strN (M.num v n))) ∧ w = w') := ih
    clear ih
    have hl : (strN (M.num (v / 2) n)).size ≤ 64 := by rw [strN_size, M.num_length]; omega
    by_cases hb : v % 2 = 1
    · have hb' : (((v : Int) % 2) == 1) = true := by simp; omega
      have HE : Hid (strN (M.num v (n + 1)) = strN (M.num (v / 2) n) ++ strN [49]) := by rw [strN_append, M.num, hb]; exact rfl
      clear hb
      go_enter Tryz.func46, Tryz.ntmps46
      go_wp2_with fail
      refine (IH.out (v / 2) _ (by omega) (by omega)).mono ?_
      rintro o w1 ⟨rfl, rfl⟩
      go_wp2
      go_ret
      exact ⟨ret_str HE.out.symm, rfl⟩
    · have hb' : (((v : Int) % 2) == 1) = false := by simp; omega
      have hb0 : v % 2 = 0 := by omega
      have HE : Hid (strN (M.num v (n + 1)) = strN (M.num (v / 2) n) ++ strN [48]) := by rw [strN_append, M.num, hb0]; exact rfl
      clear hb hb0
      go_enter Tryz.func46, Tryz.ntmps46
      go_wp2_with fail
      refine (IH.out (v / 2) _ (by omega) (by omega)).mono ?_
      rintro o w1 ⟨rfl, rfl⟩
      go_wp2
      go_ret
      exact ⟨ret_str HE.out.symm, rfl⟩
theorem flag_any (r : Bool) (w : World) : Calls Tryz.prog 56 #[.bool r] w fun o w' => o = .returned (.string (strN [48 + r.toNat])) ∧ w = w' := by
  cases r
  · go_enter Tryz.func56, Tryz.ntmps56
    go_wp2
    go_ret
    exact ⟨rfl, rfl⟩
  · go_enter Tryz.func56, Tryz.ntmps56
    go_wp2
    go_ret
    exact ⟨rfl, rfl⟩
theorem num_step (v c m : Nat) (h : m < c) : M.num (v / 2 ^ m) (c - m) = M.num (v / 2 ^ (m + 1)) (c - (m + 1)) ++ [48 + v / 2 ^ m % 2] := by
  have e : v / 2 ^ m / 2 = v / 2 ^ (m + 1) := by
    rw [Nat.div_div_eq_div_mul, ← Nat.pow_succ]
  have e2 : c - m = (c - (m + 1)) + 1 := by omega
  rw [e2, M.num, e]
theorem bit_at (x m : Nat) (hx : x < 4294967296) : (48 + bits BinOp.and IntKind.u32 ((x : Int) / 2 ^ m) 1) % 256 = ((48 + x / 2 ^ m % 2 : Nat) : Int) := by
  have e : (x : Int) / 2 ^ m = ((x / 2 ^ m : Nat) : Int) := by simp
  have hy : x / 2 ^ m < 4294967296 := Nat.lt_of_le_of_lt (Nat.div_le_self _ _) hx
  rw [e, show (1 : Int) = ((1 : Nat) : Int) from rfl, u32_and_nat _ _ hy (by omega), nat_mask1]
  omega
set_option maxHeartbeats 1000000 in
theorem appendBits_any (w : World) (B : Nat) (v : Value) (l : List Nat) (x c : Nat) (hown : ownsB w B v l) (hB : B ≤ w.heap.size) (hl : l.length ≤ 10000) (hx : x < 4294967296) (hc : c ≤ 32) :
    Calls Tryz.prog 41 #[v, .int .u32 x, .int .i64 c] w fun o w' => ∃ v', o = .returned v' ∧ ownsB w' B v' (l ++ M.num x c) ∧ Below B w w' ∧ Lib.OthersKept 5 none w w' := by
  go_enter Tryz.func41, Tryz.ntmps41
  go_wp2
  go_loopw [0, 7] (fun v i wr => ∃ q : Nat, q ≤ c ∧ i = .int .i64 ((q : Int) - 1) ∧ ownsB wr B v (l ++ M.num (x / 2 ^ q) (c - q)) ∧ Below B w wr ∧ Lib.OthersKept 5 none w wr ∧ B ≤ wr.heap.size) (fun _ i _ => (intOf i + 1).toNat)
  case atStart => exact ⟨c, Nat.le_refl _, rfl, by simpa [M.num] using hown, Below.refl _ _, Lib.OthersKept.refl _ _ _, hB⟩
  case round =>
    have hB0 := hB
    clear hown hB
    obtain ⟨q, hq, rfl, hown, hbel, hok, hB⟩ := hrel
    by_cases hq0 : q = 0
    · subst hq0
      rw [Nat.sub_zero, Nat.pow_zero, Nat.div_one] at hown
      go_wp2
      go_ret
      exact ⟨_, rfl, hown, hbel, hok⟩
    · obtain ⟨m, rfl⟩ : ∃ m, q = m + 1 := ⟨q - 1, by omega⟩
      have hll : (l ++ M.num (x / 2 ^ (m + 1)) (c - (m + 1))).length ≤ 20000 := by rw [List.length_append, M.num_length]; omega
      have HN : Hid (l ++ M.num (x / 2 ^ m) (c - m) = (l ++ M.num (x / 2 ^ (m + 1)) (c - (m + 1))) ++ [48 + x / 2 ^ m % 2]) := by rw [num_step x c m (by omega), List.append_assoc]; exact rfl
      generalize l ++ M.num (x / 2 ^ (m + 1)) (c - (m + 1)) = l1 at *
      go_wp2_with (first | (at_builtin; refine app_byte2 w wr rfl (.tmp 14) (.tmp 21) rfl B _ l1 (48 + x / 2 ^ m % 2) _ (bit_at x m hx) rfl hown rfl (by omega) hB hbel ?_))
      intro v3 w3 ho3 hb3 hk3
      have hz3 : B ≤ w3.heap.size := Nat.le_trans hB0 hb3.size
      clear hown hbel hB
      go_wp2
      go_roundw
      case rel => exact ⟨m, by omega, by go_num, by rw [HN.out]; exact ho3, hb3, hok.trans hk3, hz3⟩
      case measure => simp [intOf]
/-- the letters of the arbitration field -/
def arbL (e : Bool) (i : Nat) (r : Bool) : List Nat :=
  if e = true then M.num (i / 2 ^ 18) 11 ++ [49, 49] ++ M.num i 18 ++ [48 + r.toNat] else M.num i 11 ++ [48 + r.toNat] ++ [48]
theorem arbL_length (e : Bool) (i : Nat) (r : Bool) : (arbL e i r).length ≤ 32 := by
  cases e <;> simp [arbL, M.num_length]
theorem num01 : M.num 0 1 = [48] := rfl
theorem num11 : M.num 1 1 = [49] := rfl
/-- two letters put behind a row of letters -/
theorem app_two {ops : Array Oper} {rest : List Oper} {o : Oper} {a : Act} {Q : Exit → Act → World → Prop} (w0 wr : World) (hgd : o.guard = none) (s x : Operand)
    (ho : o.op = .call { callee := .builtin .append, args := #[s, x], argTypes := #[22, 22] })
    (B : Nat) (v : Value) (l : List Nat) (c d : Nat) (hs : a.eval s = v) (hown : ownsB wr B v l)
    (hx : a.eval x = .slice (some ⟨wr.heap.size, 0, none⟩) 2 2) (hlen : l.length ≤ 100000000) (hB : B ≤ wr.heap.size) (hbel : Below B w0 wr)
    (h : ∀ v' w', ownsB w' B v' (l ++ [c, d]) → Below B w0 w' → Lib.OthersKept 5 none wr w' → wpList Tryz.prog ops Q rest (a.put o.dst v') w') :
    wpList Tryz.prog ops Q (o :: rest) a (wr.alloc (.cells #[.int .u8 (c : Int), .int .u8 (d : Int)] 5)) := by
  obtain ⟨i0, hi, hz0, hz1, hz2⟩ := info_parts Tryz.info5
  refine wpList_append_own _ hgd s x 22 ho B 5 i0 (.int .u8 0) 1 1 Tryz.underlying22 hi hz0 hz1 hz2 rfl (by decide) v l.length (bv l) hs (World.ownsRow.alloc hown _) ⟨wr.heap.size, 0, none⟩ 2 2 [.int .u8 (c : Int), .int .u8 (d : Int)] hx rfl ?_ ?_ ?_ ?_ ?_ ?_
  · exact cell_two_new wr (.int .u8 (c : Int)) (.int .u8 (d : Int)) 5
  · intro u hu; simp at hu; rcases hu with rfl | rfl <;> rfl
  · unfold maxLen; omega
  · omega
  · simp; omega
  · intro v' w' ho' hg _
    have hr : ∀ k, v.ownBlock = some k → B ≤ k := fun k hk => (World.ownsRow.lt hown k hk).1
    refine h v' w' ?_ ((hbel.alloc hB _).grown hg (by simp; omega) hr) (((Lib.OthersKept.refl 5 none wr).alloc _).grown hg ?_)
    · have e1 : bv (l ++ [c, d]) = bv l ++ [.int .u8 (c : Int), .int .u8 (d : Int)] := by simp [bv]
      unfold ownsB
      rw [e1, List.length_append]
      exact ho'
    · intro g hg'
      exact ownsB.kind (B := B) (l := l) (World.ownsRow.alloc hown _) g hg'
/-- the box of a frame stands through what only rows of letters are turned by -/
theorem box_kept {W W' : World} {b : Nat} {o : Obj} (h : W.heap[b]? = some o) (hk : Lib.OthersKept 5 none W W') (ho : ∀ c fz, o ≠ .cells c 5 fz) : W'.heap[b]? = some o := hk b o h (by simp) ho
theorem frC_ne (e : Bool) (i : Nat) (r : Bool) (d : Int) (a : Option Addr) (n cap : Nat) : ∀ c fz, frC e i r d a n cap 33 ≠ .cells c 5 fz := by
  intro c fz h; cases h
theorem frC_cells {W : World} {b : Nat} {e : Bool} {i : Nat} {r : Bool} {d : Int} {a : Option Addr} {n cap : Nat} (h : W.heap[b]? = some (frC e i r d a n cap 33)) :
    W.cell? ⟨b, 0, none⟩ = some (.bool e) ∧ W.cell? ⟨b, 1, none⟩ = some (.int .u32 (i : Int)) ∧ W.cell? ⟨b, 2, none⟩ = some (.bool r) ∧ W.cell? ⟨b, 3, none⟩ = some (.int .i64 d) ∧ W.cell? ⟨b, 4, none⟩ = some (.slice a n cap) := by
  refine ⟨?_, ?_, ?_, ?_, ?_⟩ <;> simp [World.cell?, h]
set_option maxHeartbeats 1000000 in
theorem appendArb_any (w : World) (B : Nat) (v : Value) (l : List Nat) (hown : ownsB w B v l) (hB : B ≤ w.heap.size) (hl : l.length ≤ 1000)
    (e : Bool) (i : Nat) (r : Bool) (d : Int) (a : Option Addr) (n cap : Nat) (hi : i < 4294967296) :
    Calls Tryz.prog 48 #[v, frV e i r d a n cap] w fun o w' => ∃ v', o = .returned v' ∧ ownsB w' B v' (l ++ arbL e i r) ∧ Below B w w' ∧ Lib.OthersKept 5 none w w' := by
  have hown1 : ownsB (w.alloc (frC e i r d a n cap 33)) B v l := World.ownsRow.alloc hown _
  have hbox := heap_alloc_new w (frC e i r d a n cap 33)
  have hbel1 : Below B w (w.alloc (frC e i r d a n cap 33)) := (Below.refl _ _).alloc hB _
  have hok1 : Lib.OthersKept 5 none w (w.alloc (frC e i r d a n cap 33)) := (Lib.OthersKept.refl 5 none w).alloc _
  have hz1 : B ≤ (w.alloc (frC e i r d a n cap 33)).heap.size := by simp; omega
  have HALL : Hid (ownsB (w.alloc (frC e i r d a n cap 33)) B v l ∧ (w.alloc (frC e i r d a n cap 33)).heap[w.heap.size]? = some (frC e i r d a n cap 33) ∧ Below B w (w.alloc (frC e i r d a n cap 33)) ∧ Lib.OthersKept 5 none w (w.alloc (frC e i r d a n cap 33)) ∧ B ≤ (w.alloc (frC e i r d a n cap 33)).heap.size) := ⟨hown1, hbox, hbel1, hok1, hz1⟩
  clear hown1 hbox hbel1 hok1 hz1 hown
  cases e
  · cases r
    · go_enter Tryz.func48, Tryz.ntmps48
      go_wp2_with fail
      refine (appendBits_any _ B v l i 11 HALL.out.1 HALL.out.2.2.2.2 (by omega) hi (by omega)).mono ?_
      rintro o w2 ⟨v2, rfl, ho2, hb2, hk2⟩
      go_wp2_with fail
      have hz2 : B ≤ w2.heap.size := Nat.le_trans HALL.out.2.2.2.2 hb2.size
      refine (appendBits_any _ B v2 _ 0 1 ho2 hz2 (by simp [M.num_length]; omega) (by omega) (by omega)).mono ?_
      rintro o w3 ⟨v3, rfl, ho3, hb3, hk3⟩
      have hz3 : B ≤ w3.heap.size := Nat.le_trans hz2 hb3.size
      go_wp2_with (first | (at_builtin; refine app_byte2 w3 w3 rfl (.tmp 18) (.tmp 19) rfl B _ _ 48 _ rfl rfl ho3 rfl (by simp [M.num_length]; omega) hz3 (Below.refl _ _) ?_))
      intro v4 w4 ho4 hb4 hk4
      go_wp2
      go_ret
      refine ⟨_, rfl, ?_, HALL.out.2.2.1.trans (hb2.trans (hb3.trans hb4)), HALL.out.2.2.2.1.trans (hk2.trans (hk3.trans hk4))⟩
      have hfin : ownsB w4 B v4 (l ++ arbL false i false) := by simpa [arbL, num01, num11] using ho4
      exact hfin
    · go_enter Tryz.func48, Tryz.ntmps48
      go_wp2_with fail
      refine (appendBits_any _ B v l i 11 HALL.out.1 HALL.out.2.2.2.2 (by omega) hi (by omega)).mono ?_
      rintro o w2 ⟨v2, rfl, ho2, hb2, hk2⟩
      go_wp2_with fail
      have hz2 : B ≤ w2.heap.size := Nat.le_trans HALL.out.2.2.2.2 hb2.size
      refine (appendBits_any _ B v2 _ 1 1 ho2 hz2 (by simp [M.num_length]; omega) (by omega) (by omega)).mono ?_
      rintro o w3 ⟨v3, rfl, ho3, hb3, hk3⟩
      have hz3 : B ≤ w3.heap.size := Nat.le_trans hz2 hb3.size
      go_wp2_with (first | (at_builtin; refine app_byte2 w3 w3 rfl (.tmp 18) (.tmp 19) rfl B _ _ 48 _ rfl rfl ho3 rfl (by simp [M.num_length]; omega) hz3 (Below.refl _ _) ?_))
      intro v4 w4 ho4 hb4 hk4
      go_wp2
      go_ret
      refine ⟨_, rfl, ?_, HALL.out.2.2.1.trans (hb2.trans (hb3.trans hb4)), HALL.out.2.2.2.1.trans (hk2.trans (hk3.trans hk4))⟩
      have hfin : ownsB w4 B v4 (l ++ arbL false i true) := by simpa [arbL, num01, num11] using ho4
      exact hfin
  · cases r
    · have hdv : ((i : Int) / 262144) = ((i / 2 ^ 18 : Nat) : Int) := by omega
      have HDV : Hid (((i : Int) / 262144) = ((i / 2 ^ 18 : Nat) : Int)) := hdv
      clear hdv
      go_enter Tryz.func48, Tryz.ntmps48
      go_wp2_with fail
      rw [HDV.out]
      refine (appendBits_any _ B v l (i / 2 ^ 18) 11 HALL.out.1 HALL.out.2.2.2.2 (by omega) (by omega) (by omega)).mono ?_
      rintro o w2 ⟨v2, rfl, ho2, hb2, hk2⟩
      have hz2 : B ≤ w2.heap.size := Nat.le_trans HALL.out.2.2.2.2 hb2.size
      have hx2 := box_kept HALL.out.2.1 hk2 (frC_ne _ _ _ _ _ _ _)
      go_wp2_with (first | (at_builtin; refine app_two w2 w2 rfl (.tmp 26) (.tmp 27) rfl B _ _ 49 49 rfl ho2 rfl (by simp [M.num_length]; omega) hz2 (Below.refl _ _) ?_))
      intro v3 w3 ho3 hb3 hk3
      have hz3 : B ≤ w3.heap.size := Nat.le_trans hz2 hb3.size
      have hx3 := frC_cells (box_kept hx2 hk3 (frC_ne _ _ _ _ _ _ _))
      have HX2 : Hid True := trivial
      clear hx2 HX2
      go_wp2_with fail
      refine (appendBits_any _ B v3 _ i 18 ho3 hz3 (by simp [M.num_length]; omega) hi (by omega)).mono ?_
      rintro o w4 ⟨v4, rfl, ho4, hb4, hk4⟩
      have hz4 : B ≤ w4.heap.size := Nat.le_trans hz3 hb4.size
      clear hx3
      go_wp2_with fail
      refine (appendBits_any _ B v4 _ 0 1 ho4 hz4 (by simp [M.num_length]; omega) (by omega) (by omega)).mono ?_
      rintro o w5 ⟨v5, rfl, ho5, hb5, hk5⟩
      go_wp2
      go_ret
      refine ⟨_, rfl, ?_, HALL.out.2.2.1.trans (hb2.trans (hb3.trans (hb4.trans hb5))), HALL.out.2.2.2.1.trans (hk2.trans (hk3.trans (hk4.trans hk5)))⟩
      have hfin : ownsB w5 B v5 (l ++ arbL true i false) := by simpa [arbL, num01, num11] using ho5
      exact hfin
    · have hdv : ((i : Int) / 262144) = ((i / 2 ^ 18 : Nat) : Int) := by omega
      have HDV : Hid (((i : Int) / 262144) = ((i / 2 ^ 18 : Nat) : Int)) := hdv
      clear hdv
      go_enter Tryz.func48, Tryz.ntmps48
      go_wp2_with fail
      rw [HDV.out]
      refine (appendBits_any _ B v l (i / 2 ^ 18) 11 HALL.out.1 HALL.out.2.2.2.2 (by omega) (by omega) (by omega)).mono ?_
      rintro o w2 ⟨v2, rfl, ho2, hb2, hk2⟩
      have hz2 : B ≤ w2.heap.size := Nat.le_trans HALL.out.2.2.2.2 hb2.size
      have hx2 := box_kept HALL.out.2.1 hk2 (frC_ne _ _ _ _ _ _ _)
      go_wp2_with (first | (at_builtin; refine app_two w2 w2 rfl (.tmp 26) (.tmp 27) rfl B _ _ 49 49 rfl ho2 rfl (by simp [M.num_length]; omega) hz2 (Below.refl _ _) ?_))
      intro v3 w3 ho3 hb3 hk3
      have hz3 : B ≤ w3.heap.size := Nat.le_trans hz2 hb3.size
      have hx3 := frC_cells (box_kept hx2 hk3 (frC_ne _ _ _ _ _ _ _))
      have HX2 : Hid True := trivial
      clear hx2 HX2
      go_wp2_with fail
      refine (appendBits_any _ B v3 _ i 18 ho3 hz3 (by simp [M.num_length]; omega) hi (by omega)).mono ?_
      rintro o w4 ⟨v4, rfl, ho4, hb4, hk4⟩
      have hz4 : B ≤ w4.heap.size := Nat.le_trans hz3 hb4.size
      clear hx3
      go_wp2_with fail
      refine (appendBits_any _ B v4 _ 1 1 ho4 hz4 (by simp [M.num_length]; omega) (by omega) (by omega)).mono ?_
      rintro o w5 ⟨v5, rfl, ho5, hb5, hk5⟩
      go_wp2
      go_ret
      refine ⟨_, rfl, ?_, HALL.out.2.2.1.trans (hb2.trans (hb3.trans (hb4.trans hb5))), HALL.out.2.2.2.1.trans (hk2.trans (hk3.trans (hk4.trans hk5)))⟩
      have hfin : ownsB w5 B v5 (l ++ arbL true i true) := by simpa [arbL, num01, num11] using ho5
      exact hfin
theorem sizeRes_any (w : World) (e : Bool) (i : Nat) (r : Bool) (d : Int) (a : Option Addr) (n cap : Nat) :
    Calls Tryz.prog 49 #[.int .i64 7, frV e i r d a n cap] w fun o w' => o = .returned (.int .i64 ((1 + e.toNat : Nat) : Int)) ∧ w.alloc (frC e i r d a n cap 33) = w' := by
  cases e
  · go_enter Tryz.func49, Tryz.ntmps49
    go_wp2
    go_ret
    exact ⟨rfl, rfl⟩
  · go_enter Tryz.func49, Tryz.ntmps49
    go_wp2
    go_ret
    exact ⟨rfl, rfl⟩
/-- the letters of the body -/
def bodyL (e : Bool) (i : Nat) (r : Bool) (d : Nat) (l : List Nat) : List Nat :=
  [48] ++ arbL e i r ++ M.num 0 (1 + e.toNat) ++ M.num d 4 ++ l.flatMap (fun x => M.num x 8)
theorem bodyL_length (e : Bool) (i : Nat) (r : Bool) (d : Nat) (l : List Nat) : (bodyL e i r d l).length = (if e = true then 39 else 19) + 8 * l.length := by
  have h8 : (l.flatMap (fun x => M.num x 8)).length = 8 * l.length := by
    induction l with
    | nil => rfl
    | cons a l ih => rw [List.flatMap_cons, List.length_append, ih, M.num_length, List.length_cons]; omega
  cases e <;> simp [bodyL, arbL, M.num_length, h8] <;> omega
theorem bodyL_isL (e : Bool) (i : Nat) (r : Bool) (d : Nat) (l : List Nat) : ∀ x ∈ bodyL e i r d l, M.isL x := by
  have hf : ∀ x, x = 48 + r.toNat → M.isL x := by intro x hx; subst hx; cases r; exact .inl rfl; exact .inr rfl
  have h0 : M.isL 48 := .inl rfl
  have h1 : M.isL 49 := .inr rfl
  intro x hx
  cases e
  · simp only [bodyL, arbL, List.mem_append, List.mem_flatMap, List.mem_singleton, Bool.false_eq_true, if_false] at hx
    rcases hx with (((rfl | (hx | hx) | hx) | hx) | hx) | ⟨y, _, hx⟩
    · exact h0
    · exact M.num_isL _ _ x hx
    · exact hf x hx
    · subst hx; exact h0
    · exact M.num_isL _ _ x hx
    · exact M.num_isL _ _ x hx
    · exact M.num_isL _ _ x hx
  · simp only [bodyL, arbL, List.mem_append, List.mem_flatMap, List.mem_cons, List.not_mem_nil, or_false, if_true] at hx
    rcases hx with (((rfl | (((hx | hx) | hx) | hx)) | hx) | hx) | ⟨y, _, hx⟩
    · exact h0
    · exact M.num_isL _ _ x hx
    · rcases hx with rfl | rfl <;> exact h1
    · exact M.num_isL _ _ x hx
    · exact hf x hx
    · exact M.num_isL _ _ x hx
    · exact M.num_isL _ _ x hx
    · exact M.num_isL _ _ x hx
theorem own_one (w : World) (c : Nat) (B : Nat) (hB : B ≤ w.heap.size) : ownsB (w.alloc (.cells #[.int .u8 (c : Int)] 5)) B (.slice (some ⟨w.heap.size, 0, none⟩) 1 1) [c] :=
  World.ownsRow_lit w #[.int .u8 (c : Int)] 1 hB (by decide) rfl
end Go.Proofs.YtpknchjjfiiaeaaGreatDoor.J
