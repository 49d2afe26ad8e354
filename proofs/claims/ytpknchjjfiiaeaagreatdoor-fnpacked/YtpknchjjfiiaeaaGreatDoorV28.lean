import Derived.Test.YtpknchjjfiiaeaaGreatDoorV27
import Derived.Test.YtpknchjjfiiaeaaGreatDoorV09
import Derived.Test.YtpknchjjfiiaeaaGreatDoorV03
import Derived.Test.YtpknchjjfiiaeaaGreatDoorV26
import Derived.Deep.RegionHeld3
namespace Go.Proofs.YtpknchjjfiiaeaaGreatDoor
open Go.RowKit
set_option linter.unusedVariables false
/-- the bytes of a frame as one number -/
def dataN (l : List Nat) : Nat := l.foldl (fun v x => 256 * v + x) 0
theorem dataN_snoc (l : List Nat) (x : Nat) : dataN (l ++ [x]) = 256 * dataN l + x := by simp [dataN]
theorem dataN_lt (l : List Nat) (h : ∀ x ∈ l, x < 256) : dataN l < 256 ^ l.length := by
  refine J.M.snoc_ind (P := fun l => (∀ x ∈ l, x < 256) → dataN l < 256 ^ l.length) ?_ ?_ l h
  · intro _; decide
  · intro l a ih h
    have h1 := ih (fun x hx => h x (by simp [hx]))
    have h2 := h a (by simp)
    rw [dataN_snoc, List.length_append, List.length_singleton, Nat.pow_succ]
    omega
theorem num_mod (n : Nat) : ∀ v, J.M.num v n = J.M.num (v % 2 ^ n) n := by
  induction n with
  | zero => intro v; rfl
  | succ n ih =>
    intro v
    have e1 : v % 2 ^ (n + 1) / 2 = v / 2 % 2 ^ n := by
      rw [Nat.pow_succ, Nat.mul_comm, Nat.mod_mul_right_div_self]
    have e2 : v % 2 ^ (n + 1) % 2 = v % 2 := Nat.mod_mod_of_dvd _ ⟨2 ^ n, by rw [Nat.pow_succ, Nat.mul_comm]⟩
    show J.M.num (v / 2) n ++ [48 + v % 2] = J.M.num (v % 2 ^ (n + 1) / 2) n ++ [48 + v % 2 ^ (n + 1) % 2]
    rw [e1, e2, ← ih]
theorem num_data (l : List Nat) (h : ∀ x ∈ l, x < 256) : J.M.num (dataN l) (8 * l.length) = l.flatMap (fun x => J.M.num x 8) := by
  refine J.M.snoc_ind (P := fun l => (∀ x ∈ l, x < 256) → J.M.num (dataN l) (8 * l.length) = l.flatMap (fun x => J.M.num x 8)) ?_ ?_ l h
  · intro _; rfl
  · intro l a ih h
    have h1 := ih (fun x hx => h x (by simp [hx]))
    have h2 := h a (by simp)
    rw [dataN_snoc, List.length_append, List.length_singleton, show 8 * (l.length + 1) = 8 * l.length + 8 by omega, J.M.num_split]
    rw [List.flatMap_append, ← h1, show (256 * dataN l + a) / 2 ^ 8 = dataN l by omega, num_mod 8 (256 * dataN l + a), show (256 * dataN l + a) % 2 ^ 8 = a by omega]
    simp
theorem num_ones (n : Nat) (h : n ≤ 64) : J.M.num 18446744073709551615 n = List.replicate n 49 := by
  have e : ∀ n, J.M.num (2 ^ n - 1) n = List.replicate n 49 := by
    intro n
    induction n with
    | zero => rfl
    | succ n ih =>
      have hp : 0 < 2 ^ n := Nat.pos_of_ne_zero (by simp)
      show J.M.num ((2 ^ (n + 1) - 1) / 2) n ++ [48 + (2 ^ (n + 1) - 1) % 2] = _
      rw [show (2 ^ (n + 1) - 1) / 2 = 2 ^ n - 1 by rw [Nat.pow_succ]; omega, show (2 ^ (n + 1) - 1) % 2 = 1 by rw [Nat.pow_succ]; omega, ih, List.replicate_succ']
  rw [num_mod n, ← e n]
  congr 1
  have hd : 2 ^ n ∣ 2 ^ 64 := Nat.pow_dvd_pow 2 h
  obtain ⟨k, hk⟩ := hd
  have hp : 0 < 2 ^ n := Nat.pos_of_ne_zero (by simp)
  have hk0 : 0 < k := by
    rcases Nat.eq_zero_or_pos k with h0 | h0
    · rw [h0] at hk; simp at hk
    · exact h0
  have : 18446744073709551615 = 2 ^ n * (k - 1) + (2 ^ n - 1) := by
    have h64 : (18446744073709551616 : Nat) = 2 ^ n * k := hk
    have : 2 ^ n * k = 2 ^ n * (k - 1) + 2 ^ n := by
      obtain ⟨j, rfl⟩ : ∃ j, k = j + 1 := ⟨k - 1, by omega⟩
      rw [Nat.mul_succ]; rfl
    omega
  rw [this, Nat.mul_add_mod, Nat.mod_eq_of_lt (by omega)]
theorem flagV (f : Bool) (w : World) : Calls Tryz.prog 92 #[.bool f] w fun o w' => o = .returned (.int .u64 (f.toNat : Int)) ∧ w' = w := by
  cases f
  · go_enter Tryz.func92, Tryz.ntmps92
    go_wp2
    go_ret
    exact ⟨rfl, rfl⟩
  · go_enter Tryz.func92, Tryz.ntmps92
    go_wp2
    go_ret
    exact ⟨rfl, rfl⟩
theorem or_byte (v x : Nat) (hv : v < 72057594037927936) (hx : x < 256) : bits BinOp.or IntKind.u64 ((v : Int) * 256) (x : Int) = ((256 * v + x : Nat) : Int) := by
  have e : (v : Int) * 256 = ((2 ^ 8 * v : Nat) : Int) := by omega
  rw [e, u64_or_nat _ _ (by omega) (by omega), ← Nat.two_pow_add_eq_or_of_lt (i := 8) (by omega)]
set_option maxHeartbeats 2000000 in
theorem dataV (w : World) (a : Option Addr) (n cap : Nat) (l : List Nat) (h : J.isBytes w a n cap l) (hn : n ≤ 8) :
    Calls Tryz.prog 93 #[.slice a n cap] w fun o w' => o = .returned (.int .u64 (dataN l : Int)) ∧ w' = w := by
  have hlen := h.len
  by_cases hl : l = []
  · subst hl
    have hn0 : n = 0 := hlen
    subst hn0
    clear h hlen
    go_enter Tryz.func93, Tryz.ntmps93
    go_wp2
    go_loopw [3, 8] (fun v i wr => v = .int .u64 0 ∧ i = .int .i64 0 ∧ wr = w) (fun _ _ _ => 0)
    case atStart => exact ⟨rfl, rfl, rfl⟩
    case round =>
      obtain ⟨rfl, rfl, rfl⟩ := hrel
      go_wp2
      go_ret
      exact ⟨rfl, rfl⟩
  · obtain ⟨g, off, rfl, hc⟩ := h.cells hl
    have hsm := h.small
    have HL : Hid (n = l.length) := hlen
    have HC := hidYY hc
    have hgz : g < w.heap.size := World.block_lt_of_cell? w _ (hc 0 (by have := List.length_pos_iff.2 hl; omega))
    clear hlen h hc
    go_enter Tryz.func93, Tryz.ntmps93
    go_wp2
    go_loopw [3, 8] (fun v i wr => ∃ k : Nat, k ≤ n ∧ i = .int .i64 (k : Int) ∧ v = .int .u64 (dataN (l.take k) : Int) ∧ wr = w) (fun _ i _ => ((n : Int) - intOf i).toNat)
    case atStart => exact ⟨0, by omega, rfl, rfl, rfl⟩
    case round =>
      obtain ⟨k, hk, rfl, rfl, rfl⟩ := hrel
      by_cases hk0 : k = n
      · subst hk0
        have e : l.take k = l := List.take_of_length_le (by have := HL.out; omega)
        rw [e]
        go_wp2
        go_ret
        exact ⟨rfl, rfl⟩
      · have hkl : k < l.length := by have := HL.out; omega
        have hcx := HC.out k hkl
        have hx := hsm _ (List.getElem_mem hkl)
        have hd := dataN_lt (l.take k) (fun x hx => hsm x (List.mem_of_mem_take hx))
        rw [List.length_take_of_le (by omega)] at hd
        have hd2 : dataN (l.take k) < 72057594037927936 := Nat.lt_of_lt_of_le hd (Nat.le_trans (Nat.pow_le_pow_right (by decide) (show k ≤ 7 by omega)) (by decide))
        have HN : Hid (dataN (l.take (k + 1)) = 256 * dataN (l.take k) + l[k]) := by
          show _ = _
          rw [List.take_succ_eq_append_getElem hkl, dataN_snoc]
        have HO : Hid (bits BinOp.or IntKind.u64 ((dataN (l.take k) : Int) * 256) (l[k] : Int) = ((256 * dataN (l.take k) + l[k] : Nat) : Int)) := or_byte _ _ hd2 hx
        have hkn : k < n := by omega
        clear hd hk0
        generalize l[k] = x at *
        generalize dataN (l.take k) = V at *
        go_wp2
        go_roundw
        case rel =>
          refine ⟨k + 1, by omega, by go_num, ?_, by trivial⟩
          rw [HN.out, ← HO.out]
        case measure => simp [intOf]; omega
/-- the number that goes into a field -/
def valN (f : Nat) (e : Bool) (i : Nat) (r : Bool) (d : Nat) (l : List Nat) (sum : Nat) : Nat :=
  if f = 2 then (if e = true then i / 2 ^ 18 else i) else if f = 3 then (r || e).toNat else if f = 4 then e.toNat else if f = 5 then i else if f = 6 then r.toNat
  else if f = 8 then d else if f = 9 then dataN l else if f = 10 then sum else if f = 11 ∨ f = 12 ∨ f = 13 ∨ f = 14 then 18446744073709551615 else 0
set_option maxHeartbeats 1000000 in
theorem fv_1 (w : World) (e : Bool) (i : Nat) (r : Bool) (d : Nat) (a : Option Addr) (n cap : Nat) (l : List Nat) (sum : Nat) (h : J.isBytes w a n cap l) (hi : i < 4294967296) (hd : d ≤ 15) (hn : n ≤ 8) (hs : sum < 32768) :
    Calls Tryz.prog 82 #[.int .i64 1, J.frV e i r (d : Int) a n cap, .int .i64 (sum : Int)] w fun o w' => o = .returned (.int .u64 (valN 1 e i r d l sum : Int)) ∧ Below w.heap.size w w' := by
  have HH := hidYY h
  clear h
  go_enter Tryz.func82, Tryz.ntmps82
  go_wp2
  all_goals (go_ret; refine ⟨?_, (Below.refl _ _).alloc (Nat.le_refl _) _⟩; simp [valN])
set_option maxHeartbeats 1000000 in
theorem fv_2 (w : World) (e : Bool) (i : Nat) (r : Bool) (d : Nat) (a : Option Addr) (n cap : Nat) (l : List Nat) (sum : Nat) (h : J.isBytes w a n cap l) (hi : i < 4294967296) (hd : d ≤ 15) (hn : n ≤ 8) (hs : sum < 32768) :
    Calls Tryz.prog 82 #[.int .i64 2, J.frV e i r (d : Int) a n cap, .int .i64 (sum : Int)] w fun o w' => o = .returned (.int .u64 (valN 2 e i r d l sum : Int)) ∧ Below w.heap.size w w' := by
  cases e
  · have HH := hidYY h
    clear h
    go_enter Tryz.func82, Tryz.ntmps82
    go_wp2
    all_goals (go_ret; refine ⟨?_, (Below.refl _ _).alloc (Nat.le_refl _) _⟩; simp [valN])
  · have HH := hidYY h
    clear h
    go_enter Tryz.func82, Tryz.ntmps82
    go_wp2
    all_goals (go_ret; refine ⟨?_, (Below.refl _ _).alloc (Nat.le_refl _) _⟩; simp [valN])
set_option maxHeartbeats 1000000 in
theorem fv_3 (w : World) (e : Bool) (i : Nat) (r : Bool) (d : Nat) (a : Option Addr) (n cap : Nat) (l : List Nat) (sum : Nat) (h : J.isBytes w a n cap l) (hi : i < 4294967296) (hd : d ≤ 15) (hn : n ≤ 8) (hs : sum < 32768) :
    Calls Tryz.prog 82 #[.int .i64 3, J.frV e i r (d : Int) a n cap, .int .i64 (sum : Int)] w fun o w' => o = .returned (.int .u64 (valN 3 e i r d l sum : Int)) ∧ Below w.heap.size w w' := by
  cases r
  · have HH := hidYY h
    clear h
    go_enter Tryz.func82, Tryz.ntmps82
    go_wp2_with (first | (go_at_call 92; refine (flagV _ _).mono ?_; rintro o w1 ⟨rfl, rfl⟩))
    all_goals (go_ret; refine ⟨?_, (Below.refl _ _).alloc (Nat.le_refl _) _⟩; simp [valN])
  · have HH := hidYY h
    clear h
    go_enter Tryz.func82, Tryz.ntmps82
    go_wp2_with (first | (go_at_call 92; refine (flagV _ _).mono ?_; rintro o w1 ⟨rfl, rfl⟩))
    all_goals (go_ret; refine ⟨?_, (Below.refl _ _).alloc (Nat.le_refl _) _⟩; simp [valN])
set_option maxHeartbeats 1000000 in
theorem fv_4 (w : World) (e : Bool) (i : Nat) (r : Bool) (d : Nat) (a : Option Addr) (n cap : Nat) (l : List Nat) (sum : Nat) (h : J.isBytes w a n cap l) (hi : i < 4294967296) (hd : d ≤ 15) (hn : n ≤ 8) (hs : sum < 32768) :
    Calls Tryz.prog 82 #[.int .i64 4, J.frV e i r (d : Int) a n cap, .int .i64 (sum : Int)] w fun o w' => o = .returned (.int .u64 (valN 4 e i r d l sum : Int)) ∧ Below w.heap.size w w' := by
  have HH := hidYY h
  clear h
  go_enter Tryz.func82, Tryz.ntmps82
  go_wp2_with (first | (go_at_call 92; refine (flagV _ _).mono ?_; rintro o w1 ⟨rfl, rfl⟩))
  all_goals (go_ret; refine ⟨?_, (Below.refl _ _).alloc (Nat.le_refl _) _⟩; simp [valN])
set_option maxHeartbeats 1000000 in
theorem fv_5 (w : World) (e : Bool) (i : Nat) (r : Bool) (d : Nat) (a : Option Addr) (n cap : Nat) (l : List Nat) (sum : Nat) (h : J.isBytes w a n cap l) (hi : i < 4294967296) (hd : d ≤ 15) (hn : n ≤ 8) (hs : sum < 32768) :
    Calls Tryz.prog 82 #[.int .i64 5, J.frV e i r (d : Int) a n cap, .int .i64 (sum : Int)] w fun o w' => o = .returned (.int .u64 (valN 5 e i r d l sum : Int)) ∧ Below w.heap.size w w' := by
  have HH := hidYY h
  clear h
  go_enter Tryz.func82, Tryz.ntmps82
  go_wp2
  all_goals (go_ret; refine ⟨?_, (Below.refl _ _).alloc (Nat.le_refl _) _⟩; simp [valN])
set_option maxHeartbeats 1000000 in
theorem fv_6 (w : World) (e : Bool) (i : Nat) (r : Bool) (d : Nat) (a : Option Addr) (n cap : Nat) (l : List Nat) (sum : Nat) (h : J.isBytes w a n cap l) (hi : i < 4294967296) (hd : d ≤ 15) (hn : n ≤ 8) (hs : sum < 32768) :
    Calls Tryz.prog 82 #[.int .i64 6, J.frV e i r (d : Int) a n cap, .int .i64 (sum : Int)] w fun o w' => o = .returned (.int .u64 (valN 6 e i r d l sum : Int)) ∧ Below w.heap.size w w' := by
  have HH := hidYY h
  clear h
  go_enter Tryz.func82, Tryz.ntmps82
  go_wp2_with (first | (go_at_call 92; refine (flagV _ _).mono ?_; rintro o w1 ⟨rfl, rfl⟩))
  all_goals (go_ret; refine ⟨?_, (Below.refl _ _).alloc (Nat.le_refl _) _⟩; simp [valN])
set_option maxHeartbeats 1000000 in
theorem fv_7 (w : World) (e : Bool) (i : Nat) (r : Bool) (d : Nat) (a : Option Addr) (n cap : Nat) (l : List Nat) (sum : Nat) (h : J.isBytes w a n cap l) (hi : i < 4294967296) (hd : d ≤ 15) (hn : n ≤ 8) (hs : sum < 32768) :
    Calls Tryz.prog 82 #[.int .i64 7, J.frV e i r (d : Int) a n cap, .int .i64 (sum : Int)] w fun o w' => o = .returned (.int .u64 (valN 7 e i r d l sum : Int)) ∧ Below w.heap.size w w' := by
  have HH := hidYY h
  clear h
  go_enter Tryz.func82, Tryz.ntmps82
  go_wp2
  all_goals (go_ret; refine ⟨?_, (Below.refl _ _).alloc (Nat.le_refl _) _⟩; simp [valN])
set_option maxHeartbeats 1000000 in
theorem fv_8 (w : World) (e : Bool) (i : Nat) (r : Bool) (d : Nat) (a : Option Addr) (n cap : Nat) (l : List Nat) (sum : Nat) (h : J.isBytes w a n cap l) (hi : i < 4294967296) (hd : d ≤ 15) (hn : n ≤ 8) (hs : sum < 32768) :
    Calls Tryz.prog 82 #[.int .i64 8, J.frV e i r (d : Int) a n cap, .int .i64 (sum : Int)] w fun o w' => o = .returned (.int .u64 (valN 8 e i r d l sum : Int)) ∧ Below w.heap.size w w' := by
  have HH := hidYY h
  clear h
  go_enter Tryz.func82, Tryz.ntmps82
  go_wp2
  all_goals (go_ret; refine ⟨?_, (Below.refl _ _).alloc (Nat.le_refl _) _⟩; simp [valN])
set_option maxHeartbeats 1000000 in
theorem fv_9 (w : World) (e : Bool) (i : Nat) (r : Bool) (d : Nat) (a : Option Addr) (n cap : Nat) (l : List Nat) (sum : Nat) (h : J.isBytes w a n cap l) (hi : i < 4294967296) (hd : d ≤ 15) (hn : n ≤ 8) (hs : sum < 32768) :
    Calls Tryz.prog 82 #[.int .i64 9, J.frV e i r (d : Int) a n cap, .int .i64 (sum : Int)] w fun o w' => o = .returned (.int .u64 (valN 9 e i r d l sum : Int)) ∧ Below w.heap.size w w' := by
  have HH := hidYY h
  clear h
  go_enter Tryz.func82, Tryz.ntmps82
  go_wp2_with (first | (go_at_call 93; refine (dataV _ a n cap l (HH.out.below ((Below.refl _ _).alloc (Nat.le_refl _) _)) hn).mono ?_; rintro o w1 ⟨rfl, rfl⟩))
  all_goals (go_ret; refine ⟨?_, (Below.refl _ _).alloc (Nat.le_refl _) _⟩; simp [valN])
set_option maxHeartbeats 1000000 in
theorem fv_10 (w : World) (e : Bool) (i : Nat) (r : Bool) (d : Nat) (a : Option Addr) (n cap : Nat) (l : List Nat) (sum : Nat) (h : J.isBytes w a n cap l) (hi : i < 4294967296) (hd : d ≤ 15) (hn : n ≤ 8) (hs : sum < 32768) :
    Calls Tryz.prog 82 #[.int .i64 10, J.frV e i r (d : Int) a n cap, .int .i64 (sum : Int)] w fun o w' => o = .returned (.int .u64 (valN 10 e i r d l sum : Int)) ∧ Below w.heap.size w w' := by
  have HH := hidYY h
  clear h
  go_enter Tryz.func82, Tryz.ntmps82
  go_wp2
  all_goals (go_ret; refine ⟨?_, (Below.refl _ _).alloc (Nat.le_refl _) _⟩; simp [valN])
set_option maxHeartbeats 1000000 in
theorem fv_11 (w : World) (e : Bool) (i : Nat) (r : Bool) (d : Nat) (a : Option Addr) (n cap : Nat) (l : List Nat) (sum : Nat) (h : J.isBytes w a n cap l) (hi : i < 4294967296) (hd : d ≤ 15) (hn : n ≤ 8) (hs : sum < 32768) :
    Calls Tryz.prog 82 #[.int .i64 11, J.frV e i r (d : Int) a n cap, .int .i64 (sum : Int)] w fun o w' => o = .returned (.int .u64 (valN 11 e i r d l sum : Int)) ∧ Below w.heap.size w w' := by
  have HH := hidYY h
  clear h
  go_enter Tryz.func82, Tryz.ntmps82
  go_wp2
  all_goals (go_ret; refine ⟨?_, (Below.refl _ _).alloc (Nat.le_refl _) _⟩; simp [valN])
set_option maxHeartbeats 1000000 in
theorem fv_12 (w : World) (e : Bool) (i : Nat) (r : Bool) (d : Nat) (a : Option Addr) (n cap : Nat) (l : List Nat) (sum : Nat) (h : J.isBytes w a n cap l) (hi : i < 4294967296) (hd : d ≤ 15) (hn : n ≤ 8) (hs : sum < 32768) :
    Calls Tryz.prog 82 #[.int .i64 12, J.frV e i r (d : Int) a n cap, .int .i64 (sum : Int)] w fun o w' => o = .returned (.int .u64 (valN 12 e i r d l sum : Int)) ∧ Below w.heap.size w w' := by
  have HH := hidYY h
  clear h
  go_enter Tryz.func82, Tryz.ntmps82
  go_wp2
  all_goals (go_ret; refine ⟨?_, (Below.refl _ _).alloc (Nat.le_refl _) _⟩; simp [valN])
set_option maxHeartbeats 1000000 in
theorem fv_13 (w : World) (e : Bool) (i : Nat) (r : Bool) (d : Nat) (a : Option Addr) (n cap : Nat) (l : List Nat) (sum : Nat) (h : J.isBytes w a n cap l) (hi : i < 4294967296) (hd : d ≤ 15) (hn : n ≤ 8) (hs : sum < 32768) :
    Calls Tryz.prog 82 #[.int .i64 13, J.frV e i r (d : Int) a n cap, .int .i64 (sum : Int)] w fun o w' => o = .returned (.int .u64 (valN 13 e i r d l sum : Int)) ∧ Below w.heap.size w w' := by
  have HH := hidYY h
  clear h
  go_enter Tryz.func82, Tryz.ntmps82
  go_wp2
  all_goals (go_ret; refine ⟨?_, (Below.refl _ _).alloc (Nat.le_refl _) _⟩; simp [valN])
set_option maxHeartbeats 1000000 in
theorem fv_14 (w : World) (e : Bool) (i : Nat) (r : Bool) (d : Nat) (a : Option Addr) (n cap : Nat) (l : List Nat) (sum : Nat) (h : J.isBytes w a n cap l) (hi : i < 4294967296) (hd : d ≤ 15) (hn : n ≤ 8) (hs : sum < 32768) :
    Calls Tryz.prog 82 #[.int .i64 14, J.frV e i r (d : Int) a n cap, .int .i64 (sum : Int)] w fun o w' => o = .returned (.int .u64 (valN 14 e i r d l sum : Int)) ∧ Below w.heap.size w w' := by
  have HH := hidYY h
  clear h
  go_enter Tryz.func82, Tryz.ntmps82
  go_wp2
  all_goals (go_ret; refine ⟨?_, (Below.refl _ _).alloc (Nat.le_refl _) _⟩; simp [valN])
def dlN (r : Bool) (d : Nat) : Nat := if r = true then 0 else min d 8
def sizeN (f : Nat) (e r : Bool) (d : Nat) : Nat := if f = 2 then 11 else if f = 5 then 18 else if f = 7 then (if e = true then 2 else 1) else if f = 8 then 4 else if f = 9 then 8 * dlN r d else if f = 10 then 15 else if f = 14 then 7 else 1
def nextN (f : Nat) (e r : Bool) (d : Nat) : Nat := if f = 4 ∧ e = false then 7 else if f = 8 ∧ (r = true ∨ d = 0) then 10 else f + 1
theorem rowN (w : World) (hg : w.rangeAt 0 0 Kd.tabL) (hz : 0 < w.heap.size) (f : Nat) (h1 : 1 ≤ f) (h2 : f ≤ 14) (e : Bool) (i : Nat) (r : Bool) (d : Nat) (hd : d ≤ 15) (a : Option Addr) (n cap : Nat) :
    Calls Tryz.prog 80 #[.int .i64 (f : Int), J.frV e i r (d : Int) a n cap] w fun o w' => o = .returned (.agg #[.int .i64 (f : Int), .int .i64 (sizeN f e r d : Int), .int .i64 (nextN f e r d : Int)]) ∧ Below w.heap.size w w' := by
  have hs : Kd.rsz (f : Int) e r (d : Int) = (sizeN f e r d : Int) ∧ Kd.afterZ (f : Int) e r (d : Int) = (nextN f e r d : Int) := by
    have : f = 1 ∨ f = 2 ∨ f = 3 ∨ f = 4 ∨ f = 5 ∨ f = 6 ∨ f = 7 ∨ f = 8 ∨ f = 9 ∨ f = 10 ∨ f = 11 ∨ f = 12 ∨ f = 13 ∨ f = 14 := by omega
    rcases this with rfl | rfl | rfl | rfl | rfl | rfl | rfl | rfl | rfl | rfl | rfl | rfl | rfl | rfl <;> refine ⟨?_, ?_⟩ <;> simp [Kd.rsz, Kd.sizeZ, Kd.dlen, Kd.afterZ, sizeN, nextN, dlN] <;> cases e <;> cases r <;> simp <;> first | omega | (split <;> simp_all <;> omega)
  rw [← hs.1, ← hs.2]
  have hd0 : (0 : Int) ≤ (d : Int) := by omega
  have hd1 : (d : Int) ≤ 15 := by omega
  have : f = 1 ∨ f = 2 ∨ f = 3 ∨ f = 4 ∨ f = 5 ∨ f = 6 ∨ f = 7 ∨ f = 8 ∨ f = 9 ∨ f = 10 ∨ f = 11 ∨ f = 12 ∨ f = 13 ∨ f = 14 := by omega
  rcases this with rfl | rfl | rfl | rfl | rfl | rfl | rfl | rfl | rfl | rfl | rfl | rfl | rfl | rfl
  · exact Kd.rowOf_1 w hg hz e i r d hd0 hd1 a n cap
  · exact Kd.rowOf_2 w hg hz e i r d hd0 hd1 a n cap
  · exact Kd.rowOf_3 w hg hz e i r d hd0 hd1 a n cap
  · exact Kd.rowOf_4 w hg hz e i r d hd0 hd1 a n cap
  · exact Kd.rowOf_5 w hg hz e i r d hd0 hd1 a n cap
  · exact Kd.rowOf_6 w hg hz e i r d hd0 hd1 a n cap
  · exact Kd.rowOf_7 w hg hz e i r d hd0 hd1 a n cap
  · exact Kd.rowOf_8 w hg hz e i r d hd0 hd1 a n cap
  · exact Kd.rowOf_9 w hg hz e i r d hd0 hd1 a n cap
  · exact Kd.rowOf_10 w hg hz e i r d hd0 hd1 a n cap
  · exact Kd.rowOf_11 w hg hz e i r d hd0 hd1 a n cap
  · exact Kd.rowOf_12 w hg hz e i r d hd0 hd1 a n cap
  · exact Kd.rowOf_13 w hg hz e i r d hd0 hd1 a n cap
  · exact Kd.rowOf_14 w hg hz e i r d hd0 hd1 a n cap
theorem fvN (w : World) (f : Nat) (h1 : 1 ≤ f) (h2 : f ≤ 14) (e : Bool) (i : Nat) (r : Bool) (d : Nat) (a : Option Addr) (n cap : Nat) (l : List Nat) (sum : Nat) (h : J.isBytes w a n cap l) (hi : i < 4294967296) (hd : d ≤ 15) (hn : n ≤ 8) (hs : sum < 32768) :
    Calls Tryz.prog 82 #[.int .i64 (f : Int), J.frV e i r (d : Int) a n cap, .int .i64 (sum : Int)] w fun o w' => o = .returned (.int .u64 (valN f e i r d l sum : Int)) ∧ Below w.heap.size w w' := by
  have : f = 1 ∨ f = 2 ∨ f = 3 ∨ f = 4 ∨ f = 5 ∨ f = 6 ∨ f = 7 ∨ f = 8 ∨ f = 9 ∨ f = 10 ∨ f = 11 ∨ f = 12 ∨ f = 13 ∨ f = 14 := by omega
  rcases this with rfl | rfl | rfl | rfl | rfl | rfl | rfl | rfl | rfl | rfl | rfl | rfl | rfl | rfl
  · exact fv_1 w e i r d a n cap l sum h hi hd hn hs
  · exact fv_2 w e i r d a n cap l sum h hi hd hn hs
  · exact fv_3 w e i r d a n cap l sum h hi hd hn hs
  · exact fv_4 w e i r d a n cap l sum h hi hd hn hs
  · exact fv_5 w e i r d a n cap l sum h hi hd hn hs
  · exact fv_6 w e i r d a n cap l sum h hi hd hn hs
  · exact fv_7 w e i r d a n cap l sum h hi hd hn hs
  · exact fv_8 w e i r d a n cap l sum h hi hd hn hs
  · exact fv_9 w e i r d a n cap l sum h hi hd hn hs
  · exact fv_10 w e i r d a n cap l sum h hi hd hn hs
  · exact fv_11 w e i r d a n cap l sum h hi hd hn hs
  · exact fv_12 w e i r d a n cap l sum h hi hd hn hs
  · exact fv_13 w e i r d a n cap l sum h hi hd hn hs
  · exact fv_14 w e i r d a n cap l sum h hi hd hn hs
/-- the fields from f up to t, each with its letters -/
def layF (nx : Nat → Nat) (bt : Nat → List Nat) : Nat → Nat → Nat → List (Nat × List Nat)
  | 0, _, _ => []
  | k + 1, f, t => if f = t then [] else (f, bt f) :: layF nx bt k (nx f) t
def bitsN (e : Bool) (i : Nat) (r : Bool) (d : Nat) (l : List Nat) (sum f : Nat) : List Nat := J.M.num (valN f e i r d l sum) (sizeN f e r d)
def lay (e : Bool) (i : Nat) (r : Bool) (d : Nat) (l : List Nat) (sum f t : Nat) : List (Nat × List Nat) := layF (fun f => nextN f e r d) (bitsN e i r d l sum) 16 f t
def lets (D : List (Nat × List Nat)) : List Nat := D.flatMap (·.2)
theorem lets_append (D E : List (Nat × List Nat)) : lets (D ++ E) = lets D ++ lets E := by simp [lets]
def spansL (st : Bool) (o : List Nat) : List (Nat × List Nat) → List (Nat × Nat × Nat)
  | [] => []
  | (f, b) :: D => (f, o.length, (feedL st o b).length - o.length) :: spansL st (feedL st o b) D
theorem spansL_snoc (st : Bool) (f : Nat) (b : List Nat) : ∀ (D : List (Nat × List Nat)) (o : List Nat), spansL st o (D ++ [(f, b)]) = spansL st o D ++ [(f, (feedL st o (lets D)).length, (feedL st o (lets D ++ b)).length - (feedL st o (lets D)).length)]
  | [], o => by simp [spansL, lets, feedL]
  | (g, c) :: D, o => by
    show (g, o.length, (feedL st o c).length - o.length) :: spansL st (feedL st o c) (D ++ [(f, b)]) = _
    rw [spansL_snoc st f b D]
    have e : lets ((g, c) :: D) = c ++ lets D := by simp [lets]
    simp only [e, feedL_append]
    rfl
theorem spansL_len (st : Bool) : ∀ (D : List (Nat × List Nat)) (o : List Nat), (spansL st o D).length = D.length
  | [], _ => rfl
  | (f, b) :: D, o => by show (spansL st (feedL st o b) D).length + 1 = D.length + 1; rw [spansL_len st D]
def spV (S : List (Nat × Nat × Nat)) : List Value := S.flatMap fun x => [.int .i64 (x.1 : Int), .int .i64 (x.2.1 : Int), .int .i64 (x.2.2 : Int)]
theorem spV_append (S T : List (Nat × Nat × Nat)) : spV (S ++ T) = spV S ++ spV T := by simp [spV]
theorem lay_body (e : Bool) (i : Nat) (r : Bool) (d : Nat) (l : List Nat) (sum : Nat) (hl : l.length = dlN r d) (hs : ∀ x ∈ l, x < 256) : lets (lay e i r d l sum 1 10) = J.bodyL e i r d l := by
  have hd := num_data l hs
  have h01 : J.M.num 0 1 = [48] := rfl
  have h02 : J.M.num 0 2 = [48, 48] := rfl
  have h11 : J.M.num 1 1 = [49] := rfl
  have hb : ∀ b : Bool, J.M.num b.toNat 1 = [48 + b.toNat] := fun b => by cases b <;> rfl
  by_cases h0 : r = true ∨ d = 0
  · have hl0 : l = [] := by
      have : dlN r d = 0 := by unfold dlN; rcases h0 with h0 | h0 <;> simp [h0]
      rw [this] at hl; exact List.length_eq_zero_iff.mp hl
    subst hl0
    cases e <;> simp [lay, layF, nextN, lets, bitsN, sizeN, valN, J.bodyL, J.arbL, h0, h01, h02, h11, hb]
  · have h0' : ¬ (r = true) ∧ ¬ d = 0 := by simpa [not_or] using h0
    have hr : r = false := by simpa using h0'.1
    subst hr
    have hdl : dlN false d = l.length := hl.symm
    have hd0 := h0'.2
    cases e <;> simp [lay, layF, nextN, lets, bitsN, sizeN, valN, J.bodyL, J.arbL, hd0, h01, h02, h11, hdl, hd]
theorem lay_plain (e : Bool) (i : Nat) (r : Bool) (d : Nat) (l : List Nat) (sum : Nat) (hl : l.length = dlN r d) (hs : ∀ x ∈ l, x < 256) : lets (lay e i r d l sum 1 11) = J.bodyL e i r d l ++ J.M.num sum 15 := by
  rw [← lay_body e i r d l sum hl hs]
  by_cases h0 : r = true ∨ d = 0
  · cases e <;> simp [lay, layF, nextN, lets, bitsN, sizeN, valN, h0]
  · have h0' : ¬ (r = true) ∧ ¬ d = 0 := by simpa [not_or] using h0
    cases e <;> simp [lay, layF, nextN, lets, bitsN, sizeN, valN, h0']
theorem lay_tail (e : Bool) (i : Nat) (r : Bool) (d : Nat) (l : List Nat) (sum : Nat) : lets (lay e i r d l sum 11 15) = List.replicate 10 49 := by
  have h1 := num_ones 1 (by decide)
  have h7 := num_ones 7 (by decide)
  simp [lay, layF, nextN, lets, bitsN, sizeN, valN, h1, h7, List.replicate]
theorem Tryz.info41 : (Tryz.prog.info? 41).map (fun i => (i.zero, i.size, i.bytes)) = some (some (.agg #[.int .i64 0, .int .i64 0, .int .i64 0]), 3, 24) := by kernel_rfl
/-- a row of spans of one's own -/
def ownsS (w : World) (B : Nat) (v : Value) (S : List (Nat × Nat × Nat)) : Prop := w.ownsRow B 41 3 v S.length (spV S)
theorem ownsS.kind {w : World} {B : Nat} {v : Value} {S : List (Nat × Nat × Nat)} (h : ownsS w B v S) : ∀ g, v.ownBlock = some g → ∃ c fz, w.heap[g]? = some (.cells c 41 fz) := by
  intro g hg
  obtain ⟨_, ⟨rfl, _⟩ | ⟨g', cap, cur, rfl, _, hh, _⟩⟩ := h
  · simp [Value.ownBlock] at hg
  · simp [Value.ownBlock] at hg
    subst hg
    exact ⟨cur, _, hh⟩
theorem ownsS.otherBlock {w w' : World} {B : Nat} {v : Value} {S : List (Nat × Nat × Nat)} (h : ownsS w B v S) (hk : ∀ g, v.ownBlock = some g → w'.heap[g]? = w.heap[g]?) : ownsS w' B v S := by
  obtain ⟨h1, ⟨h2, h3⟩ | ⟨g, cap, cur, h2, h3, hh, h4⟩⟩ := h
  · exact ⟨h1, .inl ⟨h2, h3⟩⟩
  · refine ⟨h1, .inr ⟨g, cap, cur, h2, h3, ?_, h4⟩⟩
    rw [hk g (by rw [h2]; rfl)]
    exact hh
theorem app_span {ops : Array Oper} {rest : List Oper} {o : Oper} {a : Act} {Q : Exit → Act → World → Prop} (w0 wr : World) (hgd : o.guard = none) (s x : Operand)
    (ho : o.op = .call { callee := .builtin .append, args := #[s, x], argTypes := #[37, 37] })
    (B : Nat) (v : Value) (S : List (Nat × Nat × Nat)) (y : Nat × Nat × Nat) (c0 c1 c2 : Int) (h0 : c0 = (y.1 : Int)) (h1 : c1 = (y.2.1 : Int)) (h2 : c2 = (y.2.2 : Int)) (hs : a.eval s = v) (hown : ownsS wr B v S)
    (hx : a.eval x = .slice (some ⟨wr.heap.size, 0, none⟩) 1 1) (hlen : S.length ≤ 1000000) (hB : B ≤ wr.heap.size) (hbel : Below B w0 wr)
    (h : ∀ v' w', ownsS w' B v' (S ++ [y]) → Below B w0 w' → Lib.OthersKept 41 none wr w' → B ≤ w'.heap.size → wpList Tryz.prog ops Q rest (a.put o.dst v') w') :
    wpList Tryz.prog ops Q (o :: rest) a (wr.alloc (.cells #[.int .i64 c0, .int .i64 c1, .int .i64 c2] 41)) := by
  subst h0 h1 h2
  obtain ⟨i0, hi, hz0, hz1, hz2⟩ := info_parts Tryz.info41
  refine wpList_append_own _ hgd s x 37 ho B 41 i0 (.agg #[.int .i64 0, .int .i64 0, .int .i64 0]) 3 24 Tryz.underlying37 hi hz0 hz1 hz2 rfl (by decide) v S.length (spV S) hs (World.ownsRow.alloc hown _) ⟨wr.heap.size, 0, none⟩ 1 1 [.int .i64 (y.1 : Int), .int .i64 (y.2.1 : Int), .int .i64 (y.2.2 : Int)] hx rfl ?_ ?_ ?_ ?_ ?_ ?_
  · intro j u hj
    match j, hj with
    | 0, hj => simp at hj; subst hj; simp [Addr.add]
    | 1, hj => simp at hj; subst hj; simp [Addr.add]
    | 2, hj => simp at hj; subst hj; simp [Addr.add]
  · intro u hu; simp at hu; rcases hu with rfl | rfl | rfl <;> rfl
  · unfold maxLen; omega
  · omega
  · simp; omega
  · intro v' w' ho' hg _
    have hr : ∀ k, v.ownBlock = some k → B ≤ k := fun k hk => (World.ownsRow.lt hown k hk).1
    refine h v' w' ?_ ((hbel.alloc hB _).grown hg (by simp; omega) hr) (((Lib.OthersKept.refl 41 none wr).alloc _).grown hg ?_) (Nat.le_trans (by simp; omega) hg.size)
    · have e1 : spV (S ++ [y]) = spV S ++ [.int .i64 (y.1 : Int), .int .i64 (y.2.1 : Int), .int .i64 (y.2.2 : Int)] := by simp [spV]
      unfold ownsS
      rw [e1, List.length_append]
      exact ho'
    · intro g hg'
      exact ownsS.kind (B := B) (S := S) (World.ownsRow.alloc hown _) g hg'
/-- the writer behind calls that leave its blocks alone -/
theorem bwS.below {w0 W W' : World} {b : Nat} {o : List Nat} {st : Bool} {r : Nat × Nat} (h : bwS w0 b o st r W) (hb : Below W.heap.size W W') : bwS w0 b o st r W' := by
  obtain ⟨⟨v, hh, own⟩, hbel⟩ := h
  have hz := (bw5 hh).2.2
  exact ⟨⟨v, (hb.block b hz).trans hh, own.below hb⟩, hbel.trans (hb.mono (Nat.le_of_lt hz))⟩
theorem bwS.spans {w0 W W' : World} {b B : Nat} {o : List Nat} {st : Bool} {r : Nat × Nat} (h : bwS w0 b o st r W) (hb : Below B W W') (hB : b < B) (hk : Lib.OthersKept 41 none W W') : bwS w0 b o st r W' := by
  obtain ⟨⟨v, hh, own⟩, hbel⟩ := h
  refine ⟨⟨v, (hb.block b hB).trans hh, own.otherBlock fun g hg => ?_⟩, hbel.trans (hb.mono (Nat.le_of_lt hB))⟩
  obtain ⟨c, fz, hc⟩ := own.kind g hg
  rw [hc]
  exact hk g _ hc (by simp) (by intro c' fz' e; cases e)
theorem bwS.since {w0 W : World} {b : Nat} {o : List Nat} {st : Bool} {r : Nat × Nat} (h : bwS w0 b o st r W) : bwS W b o st r W := ⟨h.row, Below.refl _ _⟩
theorem ownsS.writer {W W' : World} {b B : Nat} {v : Value} {S : List (Nat × Nat × Nat)} (h : ownsS W B v S) (hB : b < B) (hk : Lib.OthersKept 64 (some b) W W') : ownsS W' B v S := by
  refine h.otherBlock fun g hg => ?_
  obtain ⟨c, fz, hc⟩ := h.kind g hg
  rw [hc]
  have := (World.ownsRow.lt h g hg).1
  exact hk g _ hc (by intro e; simp at e; omega) (by intro c' fz' e; cases e)
theorem ownsS.below {w w' : World} {B : Nat} {v : Value} {S : List (Nat × Nat × Nat)} (h : ownsS w B v S) (hb : Below w.heap.size w w') : ownsS w' B v S :=
  h.otherBlock fun g hg => hb.block g (World.ownsRow.lt h g hg).2
end Go.Proofs.YtpknchjjfiiaeaaGreatDoor
