import Derived.Test.YtnefmdjodjpopaaX
namespace Go.Proofs.Ytnefmdjodjpopaa
open Go.RowKit

theorem num_e29 (v : Nat) (w : World) (hv : v < 4611686018427387904) : Calls Try.prog 62 #[.int .i64 (v : Int), .int .i64 29] w fun o w' => o = .returned (.string (strN (M.num v 29))) ∧ w = w' := num_any 29 v w (by omega) hv
theorem num02 : M.num 0 2 = [48, 48] := rfl
theorem num29_take (i : Nat) : (M.num i 29).take 11 = M.num (i / 2 ^ 18) 11 := by
  rw [show (29 : Nat) = 11 + 18 from rfl, M.num_split 18 i 11, List.take_append_of_le_length (by rw [M.num_length]; omega), List.take_of_length_le (by rw [M.num_length]; omega)]
theorem num29_drop (i : Nat) : (M.num i 29).drop 11 = M.num i 18 := by
  rw [show (29 : Nat) = 11 + 18 from rfl, M.num_split 18 i 11, List.drop_append_of_le_length (by rw [M.num_length]; omega), List.drop_eq_nil_of_le (by rw [M.num_length]; omega), List.nil_append]
theorem b48 : ({ data := #[48] } : ByteArray) = strN [48] := rfl
theorem b49 : ({ data := #[49] } : ByteArray) = strN [49] := rfl
theorem b4848 : ({ data := #[48, 48] } : ByteArray) = strN [48, 48] := rfl
set_option maxHeartbeats 1000000 in
set_option maxRecDepth 20000 in
theorem specBody_ok (w : World) (e : Bool) (i : Nat) (r : Bool) (dn : Nat) (a : Option Addr) (n cap : Nat) (l : List Nat) (h : isBytes w a n cap l) (hv : validB e i r (dn : Int) n = true) :
    Calls Try.prog 27 #[frV e i r (dn : Int) a n cap] w fun o w' => o = .returned (.string (strN (bodyL e i r dn l))) ∧ Below w.heap.size w w' := by
  obtain ⟨hi, hi2, _, hd15, hn8⟩ := validB_true hv
  have HV : Hid (validB e i r (dn : Int) n = true) := hv
  have HH : Hid (isBytes w a n cap l) := h
  have hW : Below w.heap.size w (w.alloc (frC e i r (dn : Int) a n cap 33)) := (Below.refl _ _).alloc (Nat.le_refl _) _
  have HW : Hid (Below w.heap.size w (w.alloc (frC e i r (dn : Int) a n cap 33)) ∧ (w.alloc (frC e i r (dn : Int) a n cap 33)).heap[w.heap.size]? = some (frC e i r (dn : Int) a n cap 33)) := ⟨hW, heap_alloc_new w _⟩
  clear hv h hW hi2
  cases e
  · go_enter Try.func27, Try.ntmps27
    go_wp2_with fail
    refine (specValid_any _ _ i r (dn : Int) a n cap).mono ?_
    rw [HV.out]
    rintro o w1 ⟨rfl, hb1⟩
    have hB1 : Below w.heap.size w w1 := HW.out.1.trans (hb1.mono (by simp))
    have hx1 := box_below HW.out.2 hb1 (by simp)
    have hc1 := frC_cells hx1
    have HY1 : Hid (isBytes w1 a n cap l) := HH.out.below hB1
    clear hb1 hx1
    have hs1 : (strN (M.num i 11)).size ≤ 11 := by rw [strN_size, M.num_length]; omega
    have hs2 : (strN [48 + r.toNat]).size ≤ 1 := by rw [strN_size]; simp
    go_wp2_with fail
    go_quiet (first | (go_at_call 62; exact Calls.quiet_of_same (num_q11 i _ (by omega))) | (go_at_call 63; exact Calls.quiet_of_same (flag_quiet r _)))
    go_wp2_with fail
    have hEq : ({ data := #[48] } ++ strN (M.num i 11) ++ strN [48 + r.toNat] ++ { data := #[48] } ++ { data := #[48] } : ByteArray) = strN ([48] ++ M.num i 11 ++ [48 + r.toNat] ++ [48] ++ [48]) := by
      rw [b48]
      simp only [strN_append]
    rw [hEq]
    have HBD : Hid (bodyL false i r dn l = [48] ++ M.num i 11 ++ [48 + r.toNat] ++ [48] ++ [48] ++ M.num dn 4 ++ l.flatMap (fun x => M.num x 8)) := by
      simp [Hid, bodyL, arbL, num01]
    have hpl : ([48] ++ M.num i 11 ++ [48 + r.toNat] ++ [48] ++ [48] ++ M.num dn 4).length ≤ 100 := by simp [M.num_length]
    have hs3 : (strN ([48] ++ M.num i 11 ++ [48 + r.toNat] ++ [48] ++ [48])).size ≤ 100 := by rw [strN_size]; simp [M.num_length]
    have hs4 : (strN (M.num dn 4)).size ≤ 4 := by rw [strN_size, M.num_length]; omega
    have HAP : Hid (strN ([48] ++ M.num i 11 ++ [48 + r.toNat] ++ [48] ++ [48]) ++ strN (M.num dn 4) = strN ([48] ++ M.num i 11 ++ [48 + r.toNat] ++ [48] ++ [48] ++ M.num dn 4)) := strN_append _ _
    clear hEq hs1 hs2
    generalize [48] ++ M.num i 11 ++ [48 + r.toNat] ++ [48] ++ [48] ++ M.num dn 4 = pre at *
    generalize strN ([48] ++ M.num i 11 ++ [48 + r.toNat] ++ [48] ++ [48]) = sp at *
    refine (num_q4 dn _ (by omega)).mono ?_
    rintro o w2 ⟨rfl, rfl⟩
    go_wp2_with fail
    rw [HAP.out]
    by_cases hl : l = []
    · have hn0 : n = 0 := by have := HY1.out.len; rw [hl] at this; simpa using this
      subst hn0 hl
      go_loopw [3, 5] (fun s idx wr => idx = .int .i64 0 ∧ s = .string (strN pre) ∧ wr = w1.drewN nq) (fun _ _ _ => 0)
      case atStart => exact ⟨rfl, rfl, rfl⟩
      case round =>
        obtain ⟨rfl, rfl, rfl⟩ := hrel
        go_wp2
        go_ret
        exact ⟨ret_str (by rw [HBD.out]; simp), below_drewN hB1 nq⟩
    · obtain ⟨g, off, rfl, hcl⟩ := HY1.out.cells hl
      have hlen := HY1.out.len
      have hn1 : n ≤ l.length := by omega
      have hn2 : l.length ≤ n := by omega
      have HSM : Hid (∀ x ∈ l, x < 256) := HY1.out.small
      clear hlen
      go_loopw [3, 5] (fun s idx wr => ∃ k : Nat, k ≤ n ∧ idx = .int .i64 k ∧ s = .string (strN (pre ++ (l.take k).flatMap (fun x => M.num x 8))) ∧ wr = w1.drewN nq) (fun _ idx _ => n - (intOf idx).toNat)
      case atStart => exact ⟨0, Nat.zero_le _, rfl, by simp, rfl⟩
      case round =>
        obtain ⟨k, hk, rfl, rfl, rfl⟩ := hrel
        by_cases hlt : k < n
        · have hc := hcl k (by omega)
          have hx256 := HSM.out l[k] (List.getElem_mem _)
          have HF : Hid (strN (pre ++ (l.take k).flatMap (fun x => M.num x 8)) ++ strN (M.num l[k] 8) = strN (pre ++ (l.take (k + 1)).flatMap (fun x => M.num x 8))) := by rw [flat_snoc l k (by omega) pre, strN_append]; exact rfl
          have hpl2 : (strN (pre ++ (l.take k).flatMap (fun x => M.num x 8))).size ≤ 1000 := by rw [strN_size, List.length_append, flat_len, List.length_take]; omega
          generalize l[k] = x at *
          have hs8 : (strN (M.num x 8)).size ≤ 8 := by rw [strN_size, M.num_length]; omega
          generalize strN (pre ++ (l.take k).flatMap (fun x => M.num x 8)) = sp at *
          go_wp2_with (first | (go_at_call 62; refine (num_q8 x _ (by omega)).mono ?_; rintro o w7 ⟨rfl, rfl⟩))
          go_roundw
          case rel => exact ⟨k + 1, by omega, by go_num, by rw [← HF.out], by first | rfl | trivial⟩
          case measure => simp [intOf]; omega
        · have hke : l.take k = l := List.take_of_length_le (by omega)
          have HKE : Hid (l.take k = l) := hke
          clear hke
          go_wp2
          go_ret
          exact ⟨ret_str (by rw [HBD.out, HKE.out]), below_drewN hB1 nq⟩
  · go_enter Try.func27, Try.ntmps27
    go_wp2_with fail
    refine (specValid_any _ _ i r (dn : Int) a n cap).mono ?_
    rw [HV.out]
    rintro o w1 ⟨rfl, hb1⟩
    have hB1 : Below w.heap.size w w1 := HW.out.1.trans (hb1.mono (by simp))
    have hx1 := box_below HW.out.2 hb1 (by simp)
    have hc1 := frC_cells hx1
    have HY1 : Hid (isBytes w1 a n cap l) := HH.out.below hB1
    clear hb1 hx1
    have hs29 : (strN (M.num i 29)).size = 29 := by rw [strN_size, M.num_length]
    have hs2 : (strN [48 + r.toNat]).size ≤ 1 := by rw [strN_size]; simp
    go_wp2_with (first | (go_at_call 62; refine (num_e29 i _ (by omega)).mono ?_; rintro o w7 ⟨rfl, rfl⟩))
    go_quiet (first | (go_at_call 63; exact Calls.quiet_of_same (flag_quiet r _)))
    go_wp2_with fail
    have hEq : ({ data := #[48] } ++ (strN (M.num i 29)).extract 0 11 ++ { data := #[49] } ++ { data := #[49] } ++ (strN (M.num i 29)).extract 11 29 ++ strN [48 + r.toNat] ++ { data := #[48, 48] } : ByteArray) = strN ([48] ++ M.num (i / 2 ^ 18) 11 ++ [49] ++ [49] ++ M.num i 18 ++ [48 + r.toNat] ++ [48, 48]) := by
      rw [b48, b49, b4848, strN_take, strN_drop _ 11 29 (by rw [M.num_length]), num29_take, num29_drop]
      simp only [strN_append]
    rw [hEq]
    have HBD : Hid (bodyL true i r dn l = [48] ++ M.num (i / 2 ^ 18) 11 ++ [49] ++ [49] ++ M.num i 18 ++ [48 + r.toNat] ++ [48, 48] ++ M.num dn 4 ++ l.flatMap (fun x => M.num x 8)) := by
      simp [Hid, bodyL, arbL, num02]
    have hpl : ([48] ++ M.num (i / 2 ^ 18) 11 ++ [49] ++ [49] ++ M.num i 18 ++ [48 + r.toNat] ++ [48, 48] ++ M.num dn 4).length ≤ 100 := by simp [M.num_length]
    have hs3 : (strN ([48] ++ M.num (i / 2 ^ 18) 11 ++ [49] ++ [49] ++ M.num i 18 ++ [48 + r.toNat] ++ [48, 48])).size ≤ 100 := by rw [strN_size]; simp [M.num_length]
    have hs4 : (strN (M.num dn 4)).size ≤ 4 := by rw [strN_size, M.num_length]; omega
    have HAP : Hid (strN ([48] ++ M.num (i / 2 ^ 18) 11 ++ [49] ++ [49] ++ M.num i 18 ++ [48 + r.toNat] ++ [48, 48]) ++ strN (M.num dn 4) = strN ([48] ++ M.num (i / 2 ^ 18) 11 ++ [49] ++ [49] ++ M.num i 18 ++ [48 + r.toNat] ++ [48, 48] ++ M.num dn 4)) := strN_append _ _
    clear hEq hs29 hs2
    generalize [48] ++ M.num (i / 2 ^ 18) 11 ++ [49] ++ [49] ++ M.num i 18 ++ [48 + r.toNat] ++ [48, 48] ++ M.num dn 4 = pre at *
    generalize strN ([48] ++ M.num (i / 2 ^ 18) 11 ++ [49] ++ [49] ++ M.num i 18 ++ [48 + r.toNat] ++ [48, 48]) = sp at *
    refine (num_q4 dn _ (by omega)).mono ?_
    rintro o w2 ⟨rfl, rfl⟩
    go_wp2_with fail
    rw [HAP.out]
    by_cases hl : l = []
    · have hn0 : n = 0 := by have := HY1.out.len; rw [hl] at this; simpa using this
      subst hn0 hl
      go_loopw [3, 5] (fun s idx wr => idx = .int .i64 0 ∧ s = .string (strN pre) ∧ wr = w1.drewN nq) (fun _ _ _ => 0)
      case atStart => exact ⟨rfl, rfl, rfl⟩
      case round =>
        obtain ⟨rfl, rfl, rfl⟩ := hrel
        go_wp2
        go_ret
        exact ⟨ret_str (by rw [HBD.out]; simp), below_drewN hB1 nq⟩
    · obtain ⟨g, off, rfl, hcl⟩ := HY1.out.cells hl
      have hlen := HY1.out.len
      have hn1 : n ≤ l.length := by omega
      have hn2 : l.length ≤ n := by omega
      have HSM : Hid (∀ x ∈ l, x < 256) := HY1.out.small
      clear hlen
      go_loopw [3, 5] (fun s idx wr => ∃ k : Nat, k ≤ n ∧ idx = .int .i64 k ∧ s = .string (strN (pre ++ (l.take k).flatMap (fun x => M.num x 8))) ∧ wr = w1.drewN nq) (fun _ idx _ => n - (intOf idx).toNat)
      case atStart => exact ⟨0, Nat.zero_le _, rfl, by simp, rfl⟩
      case round =>
        obtain ⟨k, hk, rfl, rfl, rfl⟩ := hrel
        by_cases hlt : k < n
        · have hc := hcl k (by omega)
          have hx256 := HSM.out l[k] (List.getElem_mem _)
          have HF : Hid (strN (pre ++ (l.take k).flatMap (fun x => M.num x 8)) ++ strN (M.num l[k] 8) = strN (pre ++ (l.take (k + 1)).flatMap (fun x => M.num x 8))) := by rw [flat_snoc l k (by omega) pre, strN_append]; exact rfl
          have hpl2 : (strN (pre ++ (l.take k).flatMap (fun x => M.num x 8))).size ≤ 1000 := by rw [strN_size, List.length_append, flat_len, List.length_take]; omega
          generalize l[k] = x at *
          have hs8 : (strN (M.num x 8)).size ≤ 8 := by rw [strN_size, M.num_length]; omega
          generalize strN (pre ++ (l.take k).flatMap (fun x => M.num x 8)) = sp at *
          go_wp2_with (first | (go_at_call 62; refine (num_q8 x _ (by omega)).mono ?_; rintro o w7 ⟨rfl, rfl⟩))
          go_roundw
          case rel => exact ⟨k + 1, by omega, by go_num, by rw [← HF.out], by first | rfl | trivial⟩
          case measure => simp [intOf]; omega
        · have hke : l.take k = l := List.take_of_length_le (by omega)
          have HKE : Hid (l.take k = l) := hke
          clear hke
          go_wp2
          go_ret
          exact ⟨ret_str (by rw [HBD.out, HKE.out]), below_drewN hB1 nq⟩

set_option maxHeartbeats 1000000 in
theorem specBody_any (w : World) (e : Bool) (i : Nat) (r : Bool) (d : Int) (a : Option Addr) (n cap : Nat) (l : List Nat) (h : isBytes w a n cap l) :
    Calls Try.prog 27 #[frV e i r d a n cap] w fun o w' => o = .returned (.string (bodyZ e i r d n l)) ∧ Below w.heap.size w w' := by
  by_cases hv : validB e i r d n = true
  · obtain ⟨_, _, hd0, _, _⟩ := validB_true hv
    obtain ⟨dn, rfl⟩ := Int.eq_ofNat_of_zero_le hd0
    refine (specBody_ok w e i r dn a n cap l h hv).mono ?_
    rintro o w' ⟨rfl, hb⟩
    exact ⟨ret_str (by simp [bodyZ, hv]), hb⟩
  · have hv' : validB e i r d n = false := by simpa using hv
    have HZ : Hid (bodyZ e i r d n l = ⟨#[]⟩) := by simp [bodyZ, hv', Hid]
    have HV : Hid (validB e i r d n = false) := hv'
    clear hv hv' h
    go_enter Try.func27, Try.ntmps27
    go_wp2_with (first | (go_at_call 23; refine (specValid_any _ e i r d a n cap).mono ?_; rw [HV.out]; rintro o w1 ⟨rfl, hb1⟩))
    go_ret
    exact ⟨ret_str HZ.out.symm, ((Below.refl w.heap.size w).alloc (Nat.le_refl _) _).trans (hb1.mono (by simp))⟩
end Go.Proofs.Ytnefmdjodjpopaa
